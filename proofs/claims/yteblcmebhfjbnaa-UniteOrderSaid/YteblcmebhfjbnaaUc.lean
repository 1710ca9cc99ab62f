/- unite: Find, Size. -/
import Derived.Test.YteblcmebhfjbnaaUb
import Derived.Deep.QuietTactic
namespace Go.Proofs.Yteblcmebhfjbnaa
open Go.RowKit
theorem inG_true {n : Nat} {i : Int} (h : inG n i = true) : ∃ j : Nat, i = (j : Int) ∧ j < n := by
  have := of_decide_eq_true h
  exact ⟨i.toNat, by omega, by omega⟩
theorem inG_false {n : Nat} {i : Int} (h : inG n i = false) : ¬ (0 ≤ i ∧ i < (n : Int)) := of_decide_eq_false h
theorem find_no {p : Value} {n : Nat} {W : World} (i : Int) (hl : Calls Try.prog 16 #[p] W fun e w' => e = .returned (.int .i64 (n : Int)) ∧ W = w') (h : inG n i = false) :
    Calls Try.prog 14 #[p, .int .i64 i] W fun e w' => e = .returned (.int .i64 (-1)) ∧ W = w' := by
  have HH := Lib.hid (has_any i hl)
  have HE := Lib.hid h
  clear hl h
  go_enter Try.func14, Try.ntmps14
  go_wp2_with fail
  refine HH.out.mono ?_
  rintro e w1 ⟨rfl, rfl⟩
  rw [HE.out]
  go_wp2_with fail
  go_ret
  exact ⟨rfl, rfl⟩
theorem size_no {p : Value} {n : Nat} {W : World} (i : Int) (hl : Calls Try.prog 16 #[p] W fun e w' => e = .returned (.int .i64 (n : Int)) ∧ W = w') (h : inG n i = false) :
    Calls Try.prog 19 #[p, .int .i64 i] W fun e w' => e = .returned (.int .i64 0) ∧ W = w' := by
  have HH := Lib.hid (has_any i hl)
  have HE := Lib.hid h
  clear hl h
  go_enter Try.func19, Try.ntmps19
  go_wp2_with fail
  refine HH.out.mono ?_
  rintro e w1 ⟨rfl, rfl⟩
  rw [HE.out]
  go_wp2_with fail
  go_ret
  exact ⟨rfl, rfl⟩
theorem UF.root {l : List Nd} {E : List Nat} (h : UF l E) {i k : Nat} (hi : E[i]? = some k) : ∃ r : Nat, l[r]? = some (r, sizG E k, k) := by
  obtain ⟨d, hd⟩ := h.deep
  have key : ∀ (n i : Nat), d i < n → E[i]? = some k → ∃ r : Nat, l[r]? = some (r, sizG E k, k) := fun n => by
    induction n with
    | zero => intro i hi; omega
    | succ n ih =>
      intro i hi he
      obtain ⟨x, k', hx, _⟩ := h.label (List.getElem?_eq_some_iff.1 he).1
      by_cases e : x.1 = i
      · obtain ⟨t1, t2⟩ := h.top i x hx e
        rw [he] at t1
        injection t1 with t1
        refine ⟨i, ?_⟩
        rw [hx]
        congr 1
        exact Prod.ext e (Prod.ext (by rw [t2, ← t1]) t1.symm)
      · have h1 := hd i x hx e
        obtain ⟨k2, t1, t2⟩ := h.par i x hx
        rw [he] at t1
        injection t1 with t1
        exact ih x.1 (by omega) (by rw [t2, t1])
  exact key (d i + 1) i (by omega) hi
theorem top_at {m b c : Nat} {l : List Nd} {E : List Nat} {W : World} (hm : HdB W m b E.length c) (hb : NdB W b l) (h : UF l E) {i k r s : Nat} (hi : E[i]? = some k) (hr : l[r]? = some (r, s, k)) :
    Calls Try.prog 22 #[.pointer (some ⟨m, 0, none⟩), .int .i64 (i : Int)] W fun e w' => e = .returned (.int .i64 (r : Int)) ∧ w' = W :=
  (top_any hm hb h hi).mono fun e w' ⟨q, h1, h2, h3⟩ => by
    have e1 := (h.top r _ hr rfl).1
    have e2 := (h.top q _ h2 rfl).1
    have := h.one q r _ _ h2 hr rfl rfl (by rw [e1, e2])
    exact ⟨by rw [h1, this], h3.symm⟩
set_option maxRecDepth 100000 in
set_option maxHeartbeats 4000000 in
theorem find_yes {m b c : Nat} {l : List Nd} {E : List Nat} {W : World} (hm : HdB W m b E.length c) (hb : NdB W b l) (h : UF l E) {i k : Nat} (hi : E[i]? = some k) :
    Calls Try.prog 14 #[.pointer (some ⟨m, 0, none⟩), .int .i64 (i : Int)] W fun e w' => e = .returned (.int .i64 (k : Int)) ∧ W.grownBy w' none := by
  have hin : i < E.length := (List.getElem?_eq_some_iff.1 hi).1
  have HH := Lib.hid (has_any (i : Int) (len_at hm))
  have HE := Lib.hid (show inG E.length (i : Int) = true from decide_eq_true ⟨by omega, by omega⟩)
  obtain ⟨r, hr⟩ := h.root hi
  have hrn : r < E.length := by rw [← h.len]; exact (List.getElem?_eq_some_iff.1 hr).1
  have HT := Lib.hid (fun (q : Nat) => top_at (hm.gr (gr_drewN (grownBy_refl W none) q)) (hb.gr (gr_drewN (grownBy_refl W none) q)) h hi hr)
  obtain ⟨_, _, d2⟩ := hb.cells hr
  obtain ⟨c0, _⟩ := hm.cells
  obtain ⟨n, hn⟩ : ∃ n, n = E.length := ⟨_, rfl⟩
  rw [← hn] at c0 hin HH HE hrn
  clear hm hb h hi hr hn
  go_enter Try.func14, Try.ntmps14
  go_wp2_with fail
  refine HH.out.mono ?_
  rintro e w1 ⟨rfl, rfl⟩
  rw [HE.out]
  go_wp2_with fail
  go_quiet ((go_at_call 22; exact Calls.quiet_of_same (HT.out _)))
  go_wp2_with fail
  go_ret
  exact ⟨rfl, gr_drewN (grownBy_refl _ _) _⟩
set_option maxRecDepth 100000 in
set_option maxHeartbeats 4000000 in
theorem size_yes {m b c : Nat} {l : List Nd} {E : List Nat} {W : World} (hm : HdB W m b E.length c) (hb : NdB W b l) (h : UF l E) {i k : Nat} (hi : E[i]? = some k) :
    Calls Try.prog 19 #[.pointer (some ⟨m, 0, none⟩), .int .i64 (i : Int)] W fun e w' => e = .returned (.int .i64 (sizG E k : Nat)) ∧ W.grownBy w' none := by
  have hin : i < E.length := (List.getElem?_eq_some_iff.1 hi).1
  have HH := Lib.hid (has_any (i : Int) (len_at hm))
  have HE := Lib.hid (show inG E.length (i : Int) = true from decide_eq_true ⟨by omega, by omega⟩)
  obtain ⟨r, hr⟩ := h.root hi
  have hrn : r < E.length := by rw [← h.len]; exact (List.getElem?_eq_some_iff.1 hr).1
  have HT := Lib.hid (fun (q : Nat) => top_at (hm.gr (gr_drewN (grownBy_refl W none) q)) (hb.gr (gr_drewN (grownBy_refl W none) q)) h hi hr)
  obtain ⟨_, d1, _⟩ := hb.cells hr
  obtain ⟨c0, _⟩ := hm.cells
  obtain ⟨n, hn⟩ : ∃ n, n = E.length := ⟨_, rfl⟩
  rw [← hn] at c0 hin HH HE hrn
  dsimp only at d1
  generalize sizG E k = s at d1 ⊢
  clear hm hb h hi hr hn
  go_enter Try.func19, Try.ntmps19
  go_wp2_with fail
  refine HH.out.mono ?_
  rintro e w1 ⟨rfl, rfl⟩
  rw [HE.out]
  go_wp2_with fail
  go_quiet ((go_at_call 22; exact Calls.quiet_of_same (HT.out _)))
  go_wp2_with fail
  go_ret
  exact ⟨rfl, gr_drewN (grownBy_refl _ _) _⟩

end Go.Proofs.Yteblcmebhfjbnaa
