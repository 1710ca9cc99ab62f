/- An argument of deeds, opened. -/
import Derived.Test.YtblhnjoophhliaaMV1
import Derived.Test.YtblhnjoophhliaaM16
import Derived.Deep.Slices
import Derived.Carry
import Derived.ChangeSlices
namespace Go.Proofs.Ytblhnjoophhliaa
open Go.RowKit
open Go.ChangeShapes Go.WideShapes Go.ChangeAt Go.RowKit Go.Deep
structure Ded where
  k : Int
  size : Int
  z : Bool
  p : Val
  q : Val
  n : Int
def dedC (d : Ded) : Array Value := #[.int .i64 d.k, .int .i64 d.size, .bool d.z, .int .i64 d.p.n, .int .i64 d.p.b, .int .i64 d.p.f, .int .i64 d.q.n, .int .i64 d.q.b, .int .i64 d.q.f, .int .i64 d.n]
def DedIn (d : Ded) : Prop := I64 d.k ∧ I64 d.size ∧ ValIn d.p ∧ ValIn d.q ∧ I64 d.n
/-- Deeds that came in. -/
def DeedsAt (W : World) (oa : Option Addr) (l : List Ded) : Prop := ∀ j d, l[j]? = some d → ∃ bl off, oa = some ⟨bl, off, none⟩ ∧ bl < W.heap.size ∧ DedIn d ∧ ∀ q, q < 10 → W.cell? ⟨bl, off + (j * 10 + q), none⟩ = (dedC d)[q]?
theorem DeedsAt.gr {W W' : World} {oa : Option Addr} {l : List Ded} (h : DeedsAt W oa l) (g : W.grownBy W' none) : DeedsAt W' oa l := fun j d hj => by
  obtain ⟨bl, off, e, hb, hd, hc⟩ := h j d hj
  exact ⟨bl, off, e, Nat.lt_of_lt_of_le hb g.size, hd, fun q hq => (World.cell?_of_block (a := ⟨bl, off + (j * 10 + q), none⟩) (g.block bl hb (by simp))).trans (hc q hq)⟩
theorem lists_of {α : Type} {P : Nat → α → Prop} : ∀ (n : Nat), (∀ j, j < n → ∃ x, P j x) → ∃ l : List α, l.length = n ∧ ∀ j x, l[j]? = some x → P j x
  | 0, _ => ⟨[], rfl, fun j x h => by simp at h⟩
  | n + 1, h => by
    obtain ⟨l, hl, hp⟩ := lists_of n (fun j hj => h j (by omega))
    obtain ⟨y, hy⟩ := h n (by omega)
    refine ⟨l ++ [y], by simp [hl], fun j x hx => ?_⟩
    by_cases hj : j < l.length
    · rw [List.getElem?_append_left hj] at hx
      exact hp j x hx
    · have : j < (l ++ [y]).length := (List.getElem?_eq_some_iff.1 hx).1
      simp at this
      obtain rfl : j = l.length := by omega
      simp at hx
      subst hx
      rw [hl]
      exact hy
theorem cDeed : Try.prog.cellsOf 31 = 10 := by kernel_rfl
theorem cInt : Try.prog.cellsOf 3 = 1 := by kernel_rfl
theorem cI64 : Try.prog.cellsOf 2 = 1 := by kernel_rfl
theorem cBool : Try.prog.cellsOf 4 = 1 := by kernel_rfl
section
variable {H : Type} {enc : TypeId × Value → H} {W : World} {base : Nat} {sp : Nat → Bool} {held : Bool}
set_option maxRecDepth 100000 in
theorem open_val {n : Nat} {cs : List Value} {x : DataW H × List MemPlace} (h : DataW.trod enc Try.prog W base sp held n 29 cs = some x) : ∃ v : Val, cs = (valC v).toList ∧ ValIn v := by
  obtain ⟨xs, m, rfl, hx, hlen, hxl, hf⟩ := DataW.trod_struct Try.underlying29 h
  rw [cVal] at hlen
  have hxl' : xs.length = 3 := hxl
  clear hxl
  match cs, hlen, xs, hxl' with
  | [a0, a1, a2], _, [y0, y1, y2], _ =>
    have f0 : DataW.trod enc Try.prog W base sp held m 2 (([a0, a1, a2].drop 0).take (Try.prog.cellsOf 2)) = some y0 := hf 0 _ rfl
    have f1 : DataW.trod enc Try.prog W base sp held m 3 (([a0, a1, a2].drop 1).take (Try.prog.cellsOf 3)) = some y1 := hf 1 _ rfl
    have f2 : DataW.trod enc Try.prog W base sp held m 3 (([a0, a1, a2].drop 2).take (Try.prog.cellsOf 3)) = some y2 := hf 2 _ rfl
    rw [cI64] at f0
    rw [cInt] at f1 f2
    simp only [List.drop_zero, List.take_succ_cons, List.take_zero, List.drop_succ_cons] at f0 f1 f2
    obtain ⟨n0, e0, _, w0⟩ := DataW.trod_int Try.underlying2 f0
    obtain ⟨n1, e1, _, w1⟩ := DataW.trod_int Try.underlying3 f1
    obtain ⟨n2, e2, _, w2⟩ := DataW.trod_int Try.underlying3 f2
    simp only [List.cons.injEq, and_true] at e0 e1 e2
    subst e0 e1 e2
    exact ⟨⟨n0, n1, n2⟩, rfl, i64_wf w0, i64_wf w1, i64_wf w2⟩
set_option maxRecDepth 100000 in
theorem open_deed {n : Nat} {cs : List Value} {x : DataW H × List MemPlace} (h : DataW.trod enc Try.prog W base sp held n 31 cs = some x) : ∃ d : Ded, cs = (dedC d).toList ∧ DedIn d := by
  obtain ⟨xs, m, rfl, hx, hlen, hxl, hf⟩ := DataW.trod_struct Try.underlying31 h
  rw [cDeed] at hlen
  have hxl' : xs.length = 6 := hxl
  clear hxl
  match cs, hlen, xs, hxl' with
  | [a0, a1, a2, a3, a4, a5, a6, a7, a8, a9], _, [y0, y1, y2, y3, y4, y5], _ =>
    have f0 : DataW.trod enc Try.prog W base sp held m 3 (([a0, a1, a2, a3, a4, a5, a6, a7, a8, a9].drop 0).take (Try.prog.cellsOf 3)) = some y0 := hf 0 _ rfl
    have f1 : DataW.trod enc Try.prog W base sp held m 3 (([a0, a1, a2, a3, a4, a5, a6, a7, a8, a9].drop 1).take (Try.prog.cellsOf 3)) = some y1 := hf 1 _ rfl
    have f2 : DataW.trod enc Try.prog W base sp held m 4 (([a0, a1, a2, a3, a4, a5, a6, a7, a8, a9].drop 2).take (Try.prog.cellsOf 4)) = some y2 := hf 2 _ rfl
    have f3 : DataW.trod enc Try.prog W base sp held m 29 (([a0, a1, a2, a3, a4, a5, a6, a7, a8, a9].drop 3).take (Try.prog.cellsOf 29)) = some y3 := hf 3 _ rfl
    have f4 : DataW.trod enc Try.prog W base sp held m 29 (([a0, a1, a2, a3, a4, a5, a6, a7, a8, a9].drop 6).take (Try.prog.cellsOf 29)) = some y4 := hf 4 _ rfl
    have f5 : DataW.trod enc Try.prog W base sp held m 2 (([a0, a1, a2, a3, a4, a5, a6, a7, a8, a9].drop 9).take (Try.prog.cellsOf 2)) = some y5 := hf 5 _ rfl
    rw [cInt] at f0 f1
    rw [cBool] at f2
    rw [cVal] at f3 f4
    rw [cI64] at f5
    simp only [List.drop_zero, List.take_succ_cons, List.take_zero, List.drop_succ_cons] at f0 f1 f2 f3 f4 f5
    obtain ⟨n0, e0, _, w0⟩ := DataW.trod_int Try.underlying3 f0
    obtain ⟨n1, e1, _, w1⟩ := DataW.trod_int Try.underlying3 f1
    obtain ⟨n2, e2, _⟩ := DataW.trod_bool Try.underlying4 f2
    obtain ⟨v3, e3, w3⟩ := open_val f3
    obtain ⟨v4, e4, w4⟩ := open_val f4
    obtain ⟨n5, e5, _, w5⟩ := DataW.trod_int Try.underlying2 f5
    simp only [valC, List.cons.injEq, and_true] at e0 e1 e2 e3 e4 e5
    obtain ⟨rfl, rfl, rfl⟩ := e3
    obtain ⟨rfl, rfl, rfl⟩ := e4
    subst e0 e1 e2 e5
    exact ⟨⟨n0, n1, n2, v3, v4, n5⟩, rfl, i64_wf w0, i64_wf w1, w3, w4, i64_wf w5⟩
set_option maxRecDepth 100000 in
theorem arg_deeds {v : Value} {d : DataW H} {p : List MemPlace} (hv : Value.okWide Try.prog W .any base 22 v)
    (h : DataW.Trod enc Try.prog W 0 (fun _ => true) true 22 v d p) : ∃ (oa : Option Addr) (cap : Nat) (l : List Ded), v = .slice oa l.length cap ∧ DeedsAt W oa l := by
  obtain ⟨a, len, cap, rfl⟩ := okWide_slice Try.underlying22 hv
  obtain ⟨fuel, hf⟩ := h
  rcases open_slice Try.underlying22 hf with ⟨hcs, _⟩ | ⟨ad, len', cap', m, n', D, Pl, hcs, hb, hl, hm, hmm, _, hi⟩
  · simp [Value.cells] at hcs
    obtain ⟨rfl, rfl, rfl⟩ := hcs
    exact ⟨none, 0, [], rfl, fun j d h => by simp at h⟩
  · simp [Value.cells] at hcs
    obtain ⟨rfl, rfl, rfl⟩ := hcs
    have hlm : len ≤ m := by rw [hmm]; split <;> omega
    obtain ⟨l, hll, hp⟩ := lists_of (P := fun j (y : Ded) => DedIn y ∧ ∀ q, q < 10 → W.cell? (ad.add (j * 10 + q)) = (dedC y)[q]?) len (fun j hj => by
      obtain ⟨cs', hc, htr⟩ := hi j (by omega)
      rw [cDeed] at hc
      obtain ⟨y, rfl, hq⟩ := open_deed htr
      obtain ⟨_, _, hat⟩ := World.cells?_some hc
      refine ⟨y, hq, fun k hk => ?_⟩
      have h1 := hat k hk
      rw [Addr.add_add] at h1
      rw [h1, Array.getElem?_toList])
    subst hll
    refine ⟨some ad, cap, l, rfl, fun j y hy => ?_⟩
    obtain ⟨hq, hc⟩ := hp j y hy
    have e0 : W.cell? (ad.add (j * 10 + 0)) = some (.int .i64 y.k) := hc 0 (by omega)
    have hsp : ∀ q, q < 10 → ad.add (j * 10 + q) = ⟨ad.block, ad.off + (j * 10 + q), none⟩ := fun q hq => by
      have hh := hc q hq
      obtain ⟨u, hu⟩ : ∃ u, (dedC y)[q]? = some u := ⟨_, Array.getElem?_eq_getElem (show q < 10 from hq)⟩
      rw [hu] at hh
      have hs := World.cell?_spot hh
      unfold Addr.add at hs ⊢
      split
      · rename_i e0
        rw [if_pos e0] at hs
        cases ad
        simp at hs ⊢
        exact ⟨by omega, hs⟩
      · simp
    have h0 : ad.spot = none := by
      have hj0 := (List.getElem?_eq_some_iff.1 hy).1
      have hx := List.getElem?_eq_getElem (show 0 < l.length by omega)
      have hh := (hp 0 _ hx).2 0 (by omega)
      have hs := World.cell?_spot (hh.trans (show (dedC l[0])[0]? = some (.int .i64 l[0].k) from rfl))
      unfold Addr.add at hs
      rw [if_pos rfl] at hs
      exact hs
    refine ⟨ad.block, ad.off, by cases ad; simp at h0 ⊢; exact h0, ?_, hq, fun q hq => by rw [← hsp q hq]; exact hc q hq⟩
    rcases Nat.lt_or_ge ad.block W.heap.size with h | h
    · exact h
    · rw [hsp 0 (by omega)] at e0
      simp [World.cell?, Array.getElem?_eq_none h] at e0
end

end Go.Proofs.Ytblhnjoophhliaa
