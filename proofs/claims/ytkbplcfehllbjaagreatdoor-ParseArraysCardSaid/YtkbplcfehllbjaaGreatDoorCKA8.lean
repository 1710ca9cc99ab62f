/- An argument of bytes, opened. -/
import Derived.Test.YtkbplcfehllbjaaGreatDoorMkTop
import Derived.Test.YtkbplcfehllbjaaGreatDoorCKAr
import Derived.Deep.Slices
import Derived.Carry
import Derived.ChangeSlices
namespace Go.Proofs.YtkbplcfehllbjaaGreatDoor
open Go.RowKit
open Go.ChangeShapes Go.WideShapes Go.ChangeAt Go.RowKit Go.Deep
theorem c5 : Tryz.prog.cellsOf 5 = 1 := by kernel_rfl
theorem laidOutP : laidOutB Tryz.prog = true := by kernel_rfl
set_option maxRecDepth 100000 in
theorem u8s_of {H : Type} {enc : TypeId × Value → H} {W : World} {base : Nat} {v : Value} {d : DataW H} {p : List MemPlace} (hv : Value.okWide Tryz.prog W .any base 44 v)
    (h : DataW.Trod enc Tryz.prog W 0 (fun _ => true) true 44 v d p) : ∃ (oa : Option Addr) (zs : List Nat) (cap : Nat), v = .slice oa zs.length cap ∧ U8s W oa zs ∧ zs.length ≤ maxLen := by
  obtain ⟨a, len, cap, rfl⟩ := okWide_slice Tryz.underlying44 hv
  obtain ⟨fuel, hf⟩ := h
  rcases open_ints Tryz.underlying44 Tryz.underlying5 c5 hf with ⟨hcs, _⟩ | ⟨ad, len', cap', zs, hcs, _, hl, hm, hlen, _, hc, hwf⟩
  · simp [Value.cells] at hcs
    obtain ⟨rfl, rfl, rfl⟩ := hcs
    exact ⟨none, [], 0, rfl, fun h => absurd rfl h, by simp⟩
  · simp [Value.cells] at hcs
    obtain ⟨rfl, rfl, rfl⟩ := hcs
    simp only [if_true] at hlen
    have e1 : (((zs.take len).map Int.toNat)).length = len := by simp; omega
    refine ⟨some ad, (zs.take len).map Int.toNat, cap, by rw [e1], fun hne => ?_, by rw [e1]; omega⟩
    have each : ∀ i, i < len → W.cell? ⟨ad.block, ad.off + i, none⟩ = some (.int .u8 (zs.getD i 0)) := by
      intro i hi
      have hh := hc i (by omega)
      have hsp := World.cell?_spot hh
      have e : ad.add i = ⟨ad.block, ad.off + i, none⟩ := by
        unfold Addr.add at hsp ⊢
        split
        · rename_i e0
          rw [if_pos e0] at hsp
          cases ad
          simp at hsp ⊢
          exact ⟨by omega, hsp⟩
        · simp
      rw [← e]; exact hh
    have hl0 : 0 < len := by
      rcases Nat.eq_zero_or_pos len with h0 | h0
      · subst h0; simp at hne
      · exact h0
    have hsp : ad = ⟨ad.block, ad.off, none⟩ := by
      have hh := World.cell?_spot (hc 0 (by omega))
      unfold Addr.add at hh
      rw [if_pos rfl] at hh
      cases ad; simp at hh ⊢; exact hh
    refine ⟨ad.block, ad.off, by rw [← hsp], ?_, fun i hi => ?_⟩
    · have hh := each 0 hl0
      unfold World.cell? at hh
      by_cases hb : ad.block < W.heap.size
      · exact hb
      · rw [Array.getElem?_eq_none (by show W.heap.size ≤ ad.block; omega)] at hh; cases hh
    · have hi' : i < len := by rw [e1] at hi; exact hi
      have hg : zs.getD i 0 = zs[i]'(by omega) := by simp [List.getD, List.getElem?_eq_getElem (show i < zs.length by omega)]
      have hz := u8_natA (hwf (zs[i]'(by omega)) (List.getElem_mem _))
      have hx : ((zs.take len).map Int.toNat)[i] = (zs[i]'(by omega)).toNat := by simp
      have := each i hi'
      rw [hg] at this
      rw [hx]
      refine ⟨by omega, ?_⟩
      rw [Int.toNat_of_nonneg hz.1]
      exact this

end Go.Proofs.YtkbplcfehllbjaaGreatDoor
