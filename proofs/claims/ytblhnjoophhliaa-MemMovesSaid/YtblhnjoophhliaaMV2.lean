/- An argument of bytes, opened. -/
import Derived.Test.YtblhnjoophhliaaMV1
import Derived.Test.YtblhnjoophhliaaM23
import Derived.Deep.Slices
import Derived.Carry
import Derived.ChangeSlices
namespace Go.Proofs.Ytblhnjoophhliaa
open Go.RowKit
open Go.ChangeShapes Go.WideShapes Go.ChangeAt Go.RowKit Go.Deep
theorem c5 : Try.prog.cellsOf 5 = 1 := by kernel_rfl
set_option maxRecDepth 100000 in
theorem arg_u8s {H : Type} {enc : TypeId × Value → H} {W : World} {base : Nat} {v : Value} {d : DataW H} {p : List MemPlace} (hv : Value.okWide Try.prog W .any base 65 v)
    (h : DataW.Trod enc Try.prog W 0 (fun _ => true) true 65 v d p) : ∃ (oa : Option Addr) (n cap : Nat), v = .slice oa n cap ∧ U8At W oa n := by
  obtain ⟨a, len, cap, rfl⟩ := okWide_slice Try.underlying65 hv
  obtain ⟨fuel, hf⟩ := h
  rcases open_ints Try.underlying65 Try.underlying5 c5 hf with ⟨hcs, _⟩ | ⟨ad, len', cap', zs, hcs, _, hl, hm, hlen, _, hc, hwf⟩
  · simp [Value.cells] at hcs
    obtain ⟨rfl, rfl, rfl⟩ := hcs
    exact ⟨none, 0, 0, rfl, fun i hi => by omega⟩
  · simp [Value.cells] at hcs
    obtain ⟨rfl, rfl, rfl⟩ := hcs
    simp only [if_true] at hlen
    refine ⟨some ad, len, cap, rfl, fun i hi => ?_⟩
    have hh := hc i (by omega)
    have h0 := World.cell?_spot (hc 0 (by omega))
    have hsp : ad = ⟨ad.block, ad.off, none⟩ := by
      unfold Addr.add at h0
      rw [if_pos rfl] at h0
      cases ad; simp at h0 ⊢; exact h0
    have hq := World.cell?_spot hh
    have e : ad.add i = ⟨ad.block, ad.off + i, none⟩ := by
      unfold Addr.add at hq ⊢
      split
      · rename_i e0
        rw [if_pos e0] at hq
        cases ad
        simp at hq ⊢
        exact ⟨by omega, hq⟩
      · simp
    rw [e] at hh
    have hil : i < zs.length := by omega
    have hg : zs.getD i 0 = zs[i] := by simp [List.getD, List.getElem?_eq_getElem hil]
    have hz := u8_wf (hwf zs[i] (List.getElem_mem _))
    rw [hg] at hh
    refine ⟨ad.block, ad.off, zs[i], by rw [← hsp], ?_, hz.1, hz.2, hh⟩
    rcases Nat.lt_or_ge ad.block W.heap.size with h | h
    · exact h
    · simp [World.cell?, Array.getElem?_eq_none h] at hh

end Go.Proofs.Ytblhnjoophhliaa
