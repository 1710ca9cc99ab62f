/- An argument that is a slice of tokens. -/
import Derived.Test.YthbhlmkgbinegaaDoorV1
import Derived.Test.YthbhlmkgbinegaaDoorW2
import Derived.Deep.Slices
import Derived.Carry
namespace Go.Proofs.YthbhlmkgbinegaaDoor
open Go.ChangeShapes Go.WideShapes Go.ChangeAt Go.RowKit Go.Deep
theorem c3 : Tryd.prog.cellsOf 3 = 1 := by kernel_rfl
theorem c2 : Tryd.prog.cellsOf 2 = 1 := by kernel_rfl
theorem c34 : Tryd.prog.cellsOf 34 = 4 := by kernel_rfl
section
variable {H : Type} {enc : TypeId × Value → H} {W : World} {base : Nat} {sp : Nat → Bool} {held : Bool}
set_option maxRecDepth 100000 in
theorem open_tok {n : Nat} {cs : List Value} {x : DataW H × List MemPlace} (h : DataW.trod enc Tryd.prog W base sp held n 34 cs = some x) :
    ∃ (kd ps vl : Int) (s : ByteArray), cs = [.int .i64 kd, .int .i64 ps, .string s, .int .i64 vl] ∧ x.1 = .agg [.lit (.int .i64 kd), .lit (.int .i64 ps), .lit (.string s.data.toList), .lit (.int .i64 vl)] := by
  obtain ⟨xs, m, rfl, hx, hlen, hxl, hf⟩ := DataW.trod_struct Tryd.underlying34 h
  rw [c34] at hlen
  have hxl' : xs.length = 4 := hxl
  clear hxl
  match cs, hlen, xs, hxl' with
  | [a0, a1, a2, a3], _, [y0, y1, y2, y3], _ =>
    have f0 : DataW.trod enc Tryd.prog W base sp held m 3 (([a0, a1, a2, a3].drop 0).take (Tryd.prog.cellsOf 3)) = some y0 := hf 0 _ rfl
    have f1 : DataW.trod enc Tryd.prog W base sp held m 3 (([a0, a1, a2, a3].drop 1).take (Tryd.prog.cellsOf 3)) = some y1 := hf 1 _ rfl
    have f2 : DataW.trod enc Tryd.prog W base sp held m 9 (([a0, a1, a2, a3].drop 2).take (Tryd.prog.cellsOf 9)) = some y2 := hf 2 _ rfl
    have f3 : DataW.trod enc Tryd.prog W base sp held m 2 (([a0, a1, a2, a3].drop 3).take (Tryd.prog.cellsOf 2)) = some y3 := hf 3 _ rfl
    rw [c3] at f0 f1
    rw [c9] at f2
    rw [c2] at f3
    simp only [List.drop_zero, List.take_succ_cons, List.take_zero, List.drop_succ_cons] at f0 f1 f2 f3
    obtain ⟨n0, e0, g0, _⟩ := DataW.trod_int Tryd.underlying3 f0
    obtain ⟨n1, e1, g1, _⟩ := DataW.trod_int Tryd.underlying3 f1
    obtain ⟨s, e2, g2, _⟩ := DataW.trod_string Tryd.underlying9 f2
    obtain ⟨n3, e3, g3, _⟩ := DataW.trod_int Tryd.underlying2 f3
    simp only [List.cons.injEq, and_true] at e0 e1 e2 e3
    subst e0 e1 e2 e3
    refine ⟨n0, n1, n3, s, rfl, ?_⟩
    rw [hx, g0, g1, g2, g3]
    rfl
end
theorem bulk_le {H : Type} {d : DataW H} {l : List (DataW H)} (h : d ∈ l) : Rows.uptoBulk d ≤ Rows.uptoBulkAll l := by
  induction l with
  | nil => cases h
  | cons x r ih =>
    simp only [Rows.uptoBulkAll]
    rcases List.mem_cons.1 h with e | e
    · subst e; omega
    · have := ih e; omega
theorem bulk_tok {H : Type} (kd ps vl : Int) (s : List UInt8) : s.length + 1 ≤ Rows.uptoBulk (DataW.agg [.lit (.int .i64 kd), .lit (.int .i64 ps), .lit (.string s), .lit (.int .i64 vl)] : DataW H) := by
  simp [Rows.uptoBulk, Rows.uptoBulkAll]; omega
theorem bulk_sum {H : Type} : ∀ (l : List (DataW H)) (L : List T4), l.length = L.length → (∀ k (h1 : k < l.length) (h2 : k < L.length), (L[k]).text.length + 1 ≤ Rows.uptoBulk l[k]) → (txtTail L).length ≤ Rows.uptoBulkAll l
  | [], [], _, _ => by simp [txtTail]
  | d :: l, t :: L, h, hk => by
    have h0 := hk 0 (by simp) (by simp)
    have h1 := bulk_sum l L (by simpa using h) (fun k h1 h2 => hk (k + 1) (by simpa using h1) (by simpa using h2))
    have e : (txtTail (t :: L)).length = t.text.length + 1 + (txtTail L).length := by simp [txtTail]; omega
    rw [e]
    simp only [Rows.uptoBulkAll]
    simp at h0
    omega
theorem choose_toks (w : World) (g off len : Nat) (h : ∀ i, i < len → ∃ (kd ps vl : Int) (s : ByteArray), w.cell? ⟨g, off + i * 4, none⟩ = some (.int .i64 kd) ∧ w.cell? ⟨g, off + i * 4 + 1, none⟩ = some (.int .i64 ps) ∧ w.cell? ⟨g, off + i * 4 + 2, none⟩ = some (.string s) ∧ w.cell? ⟨g, off + i * 4 + 3, none⟩ = some (.int .i64 vl)) :
    ∃ L : List T4, L.length = len ∧ ∀ k (hk : k < L.length), ∃ kd ps vl : Int, w.cell? ⟨g, off + k * 4, none⟩ = some (.int .i64 kd) ∧ w.cell? ⟨g, off + k * 4 + 1, none⟩ = some (.int .i64 ps) ∧ w.cell? ⟨g, off + k * 4 + 2, none⟩ = some (.string ⟨(L[k]).text.toArray⟩) ∧ w.cell? ⟨g, off + k * 4 + 3, none⟩ = some (.int .i64 vl) := by
  induction len with
  | zero => exact ⟨[], rfl, fun k hk => absurd hk (by simp)⟩
  | succ n ih =>
    obtain ⟨L, hL, hc⟩ := ih (fun i hi => h i (by omega))
    obtain ⟨kd, ps, vl, s, p0, p1, p2, p3⟩ := h n (by omega)
    refine ⟨L ++ [⟨0, 0, s.data.toList, 0⟩], by simp [hL], fun k hk => ?_⟩
    by_cases e : k < L.length
    · rw [List.getElem_append_left e]; exact hc k e
    · have hkn : k = n := by simp at hk; omega
      subst hkn
      refine ⟨kd, ps, vl, p0, p1, ?_, p3⟩
      rw [List.getElem_append_right (by omega)]
      simp only [hL, Nat.sub_self, List.getElem_cons_zero]
      exact p2
set_option maxRecDepth 100000 in
theorem toks_of {H : Type} {enc : TypeId × Value → H} {W : World} {base : Nat} {v : Value} {d : DataW H} {p : List MemPlace} (hv : Value.okWide Tryd.prog W .any base 23 v)
    (h : DataW.Trod enc Tryd.prog W 0 (fun _ => true) true 23 v d p) (hk : Rows.uptoBulk d ≤ 1048576) : ∃ l : List T4, Toks W v l ∧ l.length ≤ 100000000 ∧ (txt l).length ≤ 100000000 := by
  obtain ⟨a, len, cap, rfl⟩ := okWide_slice Tryd.underlying23 hv
  obtain ⟨fuel, hf⟩ := h
  rcases open_slice Tryd.underlying23 hf with ⟨hcs, hx⟩ | ⟨ad, len', cap', m, n, D, Pl, hcs, _, hl, hm, hmm, hx, hi⟩
  · simp [Value.cells] at hcs
    obtain ⟨rfl, rfl, rfl⟩ := hcs
    exact ⟨[], ⟨none, 0, rfl, fun h => absurd rfl h⟩, by simp, by simp [txt, txtTail]⟩
  · simp [Value.cells] at hcs
    obtain ⟨rfl, rfl, rfl⟩ := hcs
    simp only [if_true] at hmm
    subst hmm
    simp only [Prod.mk.injEq] at hx
    obtain ⟨rfl, rfl⟩ := hx
    have each : ∀ i, i < len → ∃ (kd ps vl : Int) (s : ByteArray), D i = .agg [.lit (.int .i64 kd), .lit (.int .i64 ps), .lit (.string s.data.toList), .lit (.int .i64 vl)] ∧ W.cell? ⟨ad.block, ad.off + i * 4, none⟩ = some (.int .i64 kd) ∧ W.cell? ⟨ad.block, ad.off + i * 4 + 1, none⟩ = some (.int .i64 ps) ∧ W.cell? ⟨ad.block, ad.off + i * 4 + 2, none⟩ = some (.string s) ∧ W.cell? ⟨ad.block, ad.off + i * 4 + 3, none⟩ = some (.int .i64 vl) := by
      intro i him
      obtain ⟨cs', hc, ht⟩ := hi i (by omega)
      rw [c34] at hc
      obtain ⟨kd, ps, vl, s, rfl, hD⟩ := open_tok ht
      obtain ⟨_, _, hat⟩ := World.cells?_some hc
      have addr : ∀ j v', W.cell? ((ad.add (i * 4)).add j) = some v' → W.cell? ⟨ad.block, ad.off + i * 4 + j, none⟩ = some v' := by
        intro j v' hh
        have hsp := World.cell?_spot hh
        rw [add_add] at hh hsp
        have e : ad.add (i * 4 + j) = ⟨ad.block, ad.off + i * 4 + j, none⟩ := by
          unfold Addr.add at hsp ⊢
          split
          · rename_i e0
            rw [if_pos e0] at hsp
            cases ad
            simp at hsp ⊢
            exact ⟨by omega, hsp⟩
          · simp
        rw [← e]; exact hh
      exact ⟨kd, ps, vl, s, hD, addr 0 _ (hat 0 (by omega)), addr 1 _ (hat 1 (by omega)), addr 2 _ (hat 2 (by omega)), addr 3 _ (hat 3 (by omega))⟩
    obtain ⟨L, hL, hc⟩ := choose_toks W ad.block ad.off len (fun i hi => by
      obtain ⟨kd, ps, vl, s, _, h⟩ := each i hi
      exact ⟨kd, ps, vl, s, h⟩)
    have hb : Rows.uptoBulkAll ((List.range len).map D) ≤ 1048576 := by
      simp only [Rows.uptoBulk] at hk; omega
    have ht := bulk_sum ((List.range len).map D) L (by simp [hL]) (fun k h1 h2 => by
      simp at h1
      obtain ⟨kd, ps, vl, s, hD, _, _, q2, _⟩ := each k h1
      obtain ⟨_, _, _, _, _, q2', _⟩ := hc k h2
      rw [q2] at q2'
      have e : s.data.toList = (L[k]).text := by
        have := Value.string.inj (Option.some.inj q2')
        rw [this]
      simp only [List.getElem_map, List.getElem_range]
      rw [hD, ← e]
      exact bulk_tok _ _ _ _)
    have hlen : L.length ≤ (txtTail L).length := by
      clear hc ht hL
      induction L with
      | nil => simp
      | cons t L ih => have e : (txtTail (t :: L)).length = t.text.length + 1 + (txtTail L).length := by simp [txtTail]; omega
                       rw [e]; simp; omega
    refine ⟨L, ⟨some ad, _, by rw [hL], fun hne => ⟨ad.block, ad.off, ?_, ?_, hc⟩⟩, by omega, ?_⟩
    · have h0 : 0 < len := by rw [← hL]; exact List.length_pos_iff.2 hne
      obtain ⟨cs', hcc, _⟩ := hi 0 (by omega)
      rw [c34] at hcc
      obtain ⟨_, hl4, hat⟩ := World.cells?_some hcc
      have h1 := hat 0 (by omega)
      rw [List.getElem?_eq_getElem (by omega)] at h1
      have := World.cell?_spot h1
      cases ad
      simp [Addr.add] at this ⊢
      exact this
    · have h0 : 0 < len := by rw [← hL]; exact List.length_pos_iff.2 hne
      obtain ⟨_, _, _, _, _, q0, _⟩ := each 0 h0
      exact World.block_lt_of_cell? W ⟨ad.block, ad.off + 0 * 4, none⟩ q0
    · have : (txt L).length ≤ (txtTail L).length := by unfold txt; simp
      omega
end Go.Proofs.YthbhlmkgbinegaaDoor
