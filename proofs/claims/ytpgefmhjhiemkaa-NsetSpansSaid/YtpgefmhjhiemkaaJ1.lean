/- Runs in memory: rows of spans; what a set may hold; where a run stands. -/
import Derived.Test.YtpgefmhjhiemkaaZf
import Derived.Test.YtpgefmhjhiemkaaJ0
namespace Go.Proofs.Ytpgefmhjhiemkaa
open Go.RowKit
def spC (p : Int × Int) : Array Value := #[.int .i64 p.1, .int .i64 p.2]
theorem spC_size (p : Int × Int) : (spC p).size = 2 := rfl
theorem spC_one (p : Int × Int) : ∀ u ∈ (spC p).toList, u.oneCell' = true := by
  intro u hu
  simp [spC] at hu
  rcases hu with rfl | rfl <;> rfl
/-- The runs S lie in the slice at A. -/
abbrev SpnAt (w : World) (A : Option Addr) (S : List (Int × Int)) : Prop := StrAt spC 2 w A S
theorem sp_cells {w : World} {ad : Addr} {S : List (Int × Int)} {k : Nat} {p : Int × Int} (h : SpnAt w (some ad) S) (hk : S[k]? = some p) :
    w.cell? (ad.add (k * 2)) = some (.int .i64 p.1) ∧ w.cell? ⟨(ad.add (k * 2)).block, (ad.add (k * 2)).off + 1, none⟩ = some (.int .i64 p.2) := by
  obtain ⟨h1, h2⟩ := h.cells hk
  exact ⟨h1 _ rfl, h2 0 _ rfl⟩
theorem infoSpan : (Try.prog.info? 47).map (fun i => (i.zero, i.size, i.bytes)) = some (some (.agg #[.int .i64 0, .int .i64 0]), 2, 16) := by kernel_rfl
/-- A slice of n runs of the call's own. -/
def OwS (base : Nat) (W : World) (v : Value) (S : List (Int × Int)) : Prop := W.ownsRow base 47 2 v S.length (flatC spC S)
theorem OwS.nil (base : Nat) (W : World) : OwS base W (.slice none 0 0) [] := own_nil _ _ _ _
theorem OwS.gr {base : Nat} {W W' : World} {v : Value} {S : List (Int × Int)} (h : OwS base W v S) (g : W.grownBy W' none) : OwS base W' v S := own_gr h g
/-- Nothing is asked but that its own block is as it was. -/
theorem OwS.at_ {base : Nat} {W W' : World} {v : Value} {S : List (Int × Int)} (h : OwS base W v S) (k : ∀ g, v.ownBlock = some g → W'.heap[g]? = W.heap[g]?) : OwS base W' v S :=
  ⟨h.1, h.2.imp id fun ⟨g, cap, cur, e, hb, hh, r⟩ => ⟨g, cap, cur, e, hb, (k g (by rw [e]; rfl)).trans hh, r⟩⟩
theorem OwS.low {base base' : Nat} {W : World} {v : Value} {S : List (Int × Int)} (h : OwS base W v S) (k : base' ≤ base) : OwS base' W v S :=
  ⟨h.1, h.2.imp id fun ⟨g, cap, cur, e, hb, r⟩ => ⟨g, cap, cur, e, Nat.le_trans k hb, r⟩⟩
theorem OwS.high {base base' : Nat} {W : World} {v : Value} {S : List (Int × Int)} (h : OwS base W v S) (k : ∀ g, v.ownBlock = some g → base' ≤ g) : OwS base' W v S :=
  ⟨h.1, h.2.imp id fun ⟨g, cap, cur, e, hb, r⟩ => ⟨g, cap, cur, e, k g (by rw [e]; rfl), r⟩⟩
theorem OwS.lt {base : Nat} {W : World} {v : Value} {S : List (Int × Int)} (h : OwS base W v S) : ∀ g, v.ownBlock = some g → base ≤ g ∧ g < W.heap.size := World.ownsRow.lt h
theorem OwS.spn {base : Nat} {W : World} {v : Value} {S : List (Int × Int)} (h : OwS base W v S) : ∃ A c, v = .slice A S.length c ∧ S.length ≤ c ∧ (A = none → c = 0) ∧ SpnAt W A S := by
  obtain ⟨ad, c, rfl, ⟨hn, hc⟩, _⟩ := own_form h
  refine ⟨ad, c, rfl, hc, hn, ?_⟩
  rcases Nat.eq_zero_or_pos S.length with h0 | h0
  · exact .inl (List.length_eq_zero_iff.1 h0)
  · obtain ⟨g, c', e, _, _⟩ := own_some h h0
    injection e with e1 e2 e3
    subst e1
    exact StrAt.of_own spC_size h
/-- What a walk reads of a row of the call's own. -/
theorem OwS.parts {base : Nat} {W : World} {v : Value} {S : List (Int × Int)} (h : OwS base W v S) (hS : S ≠ []) : ∃ g c, v = .slice (some ⟨g, 0, none⟩) S.length c ∧ base ≤ g ∧ g < W.heap.size ∧ S.length ≤ c ∧
    ∀ k p, S[k]? = some p → W.cell? ⟨g, k * 2, none⟩ = some (.int .i64 p.1) ∧ W.cell? ⟨g, k * 2 + 1, none⟩ = some (.int .i64 p.2) := by
  have h0 : 0 < S.length := List.length_pos_iff.2 hS
  obtain ⟨g, c, rfl, hb, hg⟩ := own_some h h0
  obtain ⟨A, c', e, hc, _, hs⟩ := h.spn
  simp only [Value.slice.injEq] at e
  obtain ⟨rfl, _, rfl⟩ := e
  refine ⟨g, c, rfl, hb, hg, hc, fun k p hk => ?_⟩
  have hkl := (List.getElem?_eq_some_iff.1 hk).1
  have e2 : ∀ j, j < 2 → W.cell? ⟨g, k * 2 + j, none⟩ = (spC p)[j]? := fun j hj => by
    rw [World.ownsRow.cellAt h _ (by omega), flat_at spC_size _ _ _ hj, hk]
    rfl
  exact ⟨e2 0 (by omega), e2 1 (by omega)⟩
theorem OwS.frz {base g c n : Nat} {W : World} {S : List (Int × Int)} (h : OwS base W (.slice (some ⟨g, 0, none⟩) n c) S) (j : Nat) : W.frozen? ⟨g, j, none⟩ = false := by
  obtain ⟨A, c', e, _, _, _⟩ := h.spn
  simp only [Value.slice.injEq] at e
  obtain ⟨_, rfl, _⟩ := e
  exact World.ownsRow.frozenAt h j
/-- Runs more. -/
theorem app_spn {w : World} {ops : Array Oper} {rest : List Oper} {o : Oper} {a : Act} {Q : Exit → Act → World → Prop} (hgd : o.guard = none) (s x : Operand)
    (ho : o.op = .call { callee := .builtin .append, args := #[s, x], argTypes := #[42, 42] })
    (base : Nat) (v : Value) (S : List (Int × Int)) (p : Int × Int) (hs : a.eval s = v) (hown : OwS base w v S) (b : Nat) (fz : Nat × Nat)
    (hx : a.eval x = .slice (some ⟨b, 0, none⟩) 1 1) (hb : w.heap[b]? = some (.cells (spC p) 47 fz)) (hn : S.length ≤ 100000000000) (hbase : base ≤ w.heap.size)
    (h : ∀ v' w', OwS base w' v' (S ++ [p]) → w.grownBy w' v.ownBlock → wpList Try.prog ops Q rest (a.put o.dst v') w') : wpList Try.prog ops Q (o :: rest) a w := by
  obtain ⟨i0, hi, hz0, hz1, hz2⟩ := info_parts infoSpan
  refine wpList_append_own w hgd s x 42 ho base 47 i0 _ 2 16 Try.underlying42 hi hz0 hz1 hz2 rfl (by decide) v S.length (flatC spC S) hs hown ⟨b, 0, none⟩ 1 1 (spC p).toList hx rfl ?_ (spC_one p) ?_ ?_ hbase fun v' w' h2 h3 _ => h v' w' ?_ h3
  · intro j u hu
    rw [add_none, Nat.zero_add, cell_of_row _ _ _ _ _ _ hb, ← Array.getElem?_toList]
    exact hu
  · unfold maxLen; omega
  · omega
  · unfold OwS
    rw [flat_app, List.length_append, show flatC spC [p] = (spC p).toList by simp [flatC]]
    exact h2
theorem inRange_any (x : Int) (w : World) : Calls Try.prog 29 #[.int .i64 x] w fun e w' => e = .returned (.bool (decide (inS x))) ∧ w = w' := by
  by_cases h0 : 0 ≤ x
  · by_cases h1 : x ≤ 1000000
    · have HE := Lib.hid (decide_eq_true (show inS x from ⟨h0, h1⟩))
      go_enter Try.func29, Try.ntmps29
      go_wp2_with fail
      go_ret
      exact ⟨by rw [HE.out]; rfl, rfl⟩
    · have HE := Lib.hid (decide_eq_false (show ¬ inS x from fun h => h1 h.2))
      go_enter Try.func29, Try.ntmps29
      go_wp2_with fail
      go_ret
      exact ⟨by rw [HE.out]; rfl, rfl⟩
  · have HE := Lib.hid (decide_eq_false (show ¬ inS x from fun h => h0 h.1))
    go_enter Try.func29, Try.ntmps29
    go_wp2_with fail
    go_ret
    exact ⟨by rw [HE.out]; rfl, rfl⟩

end Go.Proofs.Ytpgefmhjhiemkaa
