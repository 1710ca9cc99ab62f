/- lex.Tokens at any text; the examples at the head of all statements. -/
import Derived.Test.YthbhlmkgbinegaaDoorT3
namespace Go.Proofs.YthbhlmkgbinegaaDoor
open Go.RowKit
theorem tokens_any (s : ByteArray) (w : World) (hv : Vars w) : Calls Tryd.prog 12 #[.string s] w (TokPost w (tokensR s.data.toList)) := by
  by_cases h : 20000 < s.size
  · exact tokens_long s w h
  · have : tokensR s.data.toList = lexG s.data.toList 0 := by unfold tokensR; rw [if_neg (by simpa using h)]
    rw [this]
    exact tokens_short s w (by omega) hv
theorem ex1 : tokensR [97, 45, 62, 98, 49, 43, 48, 120, 49, 70, 47, 47, 110] = .ok [⟨1, 0, [97], 0⟩, ⟨4, 1, [45, 62], 0⟩, ⟨1, 3, [98, 49], 0⟩, ⟨4, 5, [43], 0⟩, ⟨3, 6, [48, 120, 49, 70], 31⟩] := by kernel_rfl
theorem ex2 : tokensR [48, 56] = .bad 0 2 := by kernel_rfl
theorem ex3 : tokensR [120, 32, 47, 42, 32, 121] = .bad 2 2 := by kernel_rfl
/-- Tokens, where it tells n + 1 tokens: a row of its own, whose cells are known. -/
def TokOk (w : World) (l : List T4) (e : Ending) (w' : World) : Prop :=
  ∃ g cap, e = .returned (.tuple #[.slice (some ⟨g, 0, none⟩) l.length cap, .int .i64 0, .int .i64 0]) ∧ w.heap.size ≤ g ∧ g < w'.heap.size ∧ Below w.heap.size w w' ∧ (∀ j, w'.cell? ⟨g, j, none⟩ = (cellsOf l)[j]? ∨ l.length * 4 ≤ j)
theorem tok_ok {w : World} {l : List T4} {e : Ending} {w' : World} (h : TokPost w (.ok l) e w') (hl : l ≠ []) : TokOk w l e w' := by
  obtain ⟨hB, v, he, ho⟩ := h
  obtain ⟨h1, h2⟩ := ho
  rcases h2 with ⟨_, h2⟩ | ⟨g, cap, cur, hv, hg, hh, h3, h4, h5, h6⟩
  · exact absurd (List.eq_nil_of_length_eq_zero h2) hl
  · subst hv
    refine ⟨g, cap, he, hg, ?_, hB, fun j => ?_⟩
    · rcases Nat.lt_or_ge g w'.heap.size with h | h
      · exact h
      · rw [Array.getElem?_eq_none h] at hh; cases hh
    · by_cases hj : l.length * 4 ≤ j
      · exact Or.inr hj
      · refine Or.inl ?_
        rw [cell_of_row w' g j _ _ _ hh, ← h6, List.getElem?_take_of_lt (by omega)]
        simp
theorem tokens_bad (s : ByteArray) (p : Nat) (er : Int) (w : World) (hv : Vars w) (h : tokensR s.data.toList = .bad p er) :
    Calls Tryd.prog 12 #[.string s] w fun e w' => e = .returned (.tuple #[.slice none 0 0, .int .i64 p, .int .i64 er]) ∧ Below w.heap.size w w' :=
  (tokens_any s w hv).mono fun e w' hp => by rw [h] at hp; exact ⟨hp.2, hp.1⟩
theorem tokens_ok (s : ByteArray) (l : List T4) (w : World) (hv : Vars w) (h : tokensR s.data.toList = .ok l) (hl : l ≠ []) :
    Calls Tryd.prog 12 #[.string s] w (TokOk w l) :=
  (tokens_any s w hv).mono fun e w' hp => by rw [h] at hp; exact tok_ok hp hl
set_option maxHeartbeats 2000000 in
theorem shown_any (w : World) (hv : Vars w) : Calls Tryd.prog 11 #[] w fun e w' => e = .returned (.bool true) ∧ Below w.heap.size w w' := by
  have HV := Lib.hid hv
  clear hv
  go_enter Tryd.func11, Tryd.ntmps11
  go_wp2_with fail
  refine (tokens_ok _ _ _ HV.out ex1 (by simp)).mono ?_
  rintro e w1 ⟨g, cap, rfl, hg, hgs, hb1, hc⟩
  have HC := Lib.hid hc
  have HB1 := Lib.hid hb1
  have HV1 := Lib.hid (HV.out.below hb1 HV.out.size)
  have HGS := Lib.hid hgs
  clear hg hgs hb1 hc
  go_wp2_with fail
  refine (tokens_bad _ 0 2 _ HV1.out ex2).mono ?_
  rintro e w2 ⟨rfl, hb2⟩
  have HB2 := Lib.hid hb2
  have HV2 := Lib.hid (HV1.out.below hb2 HV1.out.size)
  clear hb2
  go_wp2_with fail
  refine (tokens_bad _ 2 2 _ HV2.out ex3).mono ?_
  rintro e w3 ⟨rfl, hb3⟩
  have hall : ∀ j, j < 20 → w3.cell? ⟨g, j, none⟩ = w1.cell? ⟨g, j, none⟩ := fun j _ => by
    rw [hb3.cell (p := ⟨g, j, none⟩) (Nat.lt_of_lt_of_le HGS.out HB2.out.size), HB2.out.cell (p := ⟨g, j, none⟩) HGS.out]
  have c6 : w3.cell? ⟨g, 6, none⟩ = some (.string ⟨#[45, 62]⟩) := by rw [hall 6 (by omega)]; rcases HC.out 6 with h | h; exact h; simp at h
  have c17 : w3.cell? ⟨g, 17, none⟩ = some (.int .i64 6) := by rw [hall 17 (by omega)]; rcases HC.out 17 with h | h; exact h; simp at h
  have c19 : w3.cell? ⟨g, 19, none⟩ = some (.int .i64 31) := by rw [hall 19 (by omega)]; rcases HC.out 19 with h | h; exact h; simp at h
  have HB := Lib.hid ((HB1.out.trans (HB2.out.mono HB1.out.size)).trans (hb3.mono (Nat.le_trans HB1.out.size HB2.out.size)))
  clear hb3 hall
  go_wp2_with fail
  go_ret
  exact ⟨rfl, HB.out⟩
end Go.Proofs.YthbhlmkgbinegaaDoor
