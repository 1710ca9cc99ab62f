/- The document's Check, whatever the program. -/
import Derived.Test.YtdknclhbnhiojaaDoorI24
namespace Go.Proofs.YtdknclhbnhiojaaDoor
open Go.RowKit
section
variable (p : Prg) (w : World) (hp : PrgOk w p)
include hp
set_option maxRecDepth 100000 in
set_option maxHeartbeats 4000000 in
theorem refCheck_size (h : 200 < p.fns.length ∨ 600 < p.sites.length) : Calls Tryd.prog 17 #[prgV p] w fun e w' => e = .returned (triV (0, 0, 5)) ∧ w.grownBy w' none := by
  have l1 := hp.1
  have l2 := hp.2.1
  unfold maxLen at l1 l2
  by_cases h1 : 200 < p.fns.length
  · have e1 : decide (200 < (p.fns.length : Int)) = true := decide_eq_true (by omega)
    clear h h1 hp
    unfold prgV prgC
    go_enter Tryd.func17, Tryd.ntmps17
    go_wp2_with fail
    refine bodyPost_ret (v := .tuple #[.int .i64 0, .int .i64 0, .int .i64 5]) (by simp [results, Tryd.results17, go_sem]) rfl ⟨rfl, by repeat (first | with_reducible exact grownBy_refl _ _ | with_reducible assumption | with_reducible refine World.grownBy.gr_drew ?_ | with_reducible refine World.grownBy.gr_set ?_ (by simp) _ | with_reducible refine gr_alloc ?_ _)⟩
  · have e1 : decide (200 < (p.fns.length : Int)) = false := decide_eq_false (by omega)
    have e2 : decide (600 < (p.sites.length : Int)) = true := decide_eq_true (by omega)
    clear h h1 hp
    unfold prgV prgC
    go_enter Tryd.func17, Tryd.ntmps17
    go_wp2_with fail
    refine bodyPost_ret (v := .tuple #[.int .i64 0, .int .i64 0, .int .i64 5]) (by simp [results, Tryd.results17, go_sem]) rfl ⟨rfl, by repeat (first | with_reducible exact grownBy_refl _ _ | with_reducible assumption | with_reducible refine World.grownBy.gr_drew ?_ | with_reducible refine World.grownBy.gr_set ?_ (by simp) _ | with_reducible refine gr_alloc ?_ _)⟩
omit hp in
set_option maxRecDepth 100000 in
set_option maxHeartbeats 4000000 in
theorem refCheck_range (h1 : p.fns.length ≤ 200) (h2 : p.sites.length ≤ 600) (h : inB p.main p.fns.length = false ∨ p.sites.length < p.fns.length) : Calls Tryd.prog 17 #[prgV p] w fun e w' => e = .returned (triV (0, 0, 8)) ∧ w.grownBy w' none := by
  have e1 : decide (200 < (p.fns.length : Int)) = false := decide_eq_false (by omega)
  have e2 : decide (600 < (p.sites.length : Int)) = false := decide_eq_false (by omega)
  unfold prgV prgC
  by_cases m1 : p.main < 0
  · have e3 : decide (p.main < 0) = true := decide_eq_true m1
    clear h m1
    go_enter Tryd.func17, Tryd.ntmps17
    go_wp2_with fail
    refine bodyPost_ret (v := .tuple #[.int .i64 0, .int .i64 0, .int .i64 8]) (by simp [results, Tryd.results17, go_sem]) rfl ⟨rfl, by repeat (first | with_reducible exact grownBy_refl _ _ | with_reducible assumption | with_reducible refine World.grownBy.gr_drew ?_ | with_reducible refine World.grownBy.gr_set ?_ (by simp) _ | with_reducible refine gr_alloc ?_ _)⟩
  · have e3 : decide (p.main < 0) = false := decide_eq_false m1
    by_cases m2 : (p.fns.length : Int) ≤ p.main
    · have e4 : decide ((p.fns.length : Int) ≤ p.main) = true := decide_eq_true m2
      clear h m1 m2
      go_enter Tryd.func17, Tryd.ntmps17
      go_wp2_with fail
      refine bodyPost_ret (v := .tuple #[.int .i64 0, .int .i64 0, .int .i64 8]) (by simp [results, Tryd.results17, go_sem]) rfl ⟨rfl, by repeat (first | with_reducible exact grownBy_refl _ _ | with_reducible assumption | with_reducible refine World.grownBy.gr_drew ?_ | with_reducible refine World.grownBy.gr_set ?_ (by simp) _ | with_reducible refine gr_alloc ?_ _)⟩
    · have e4 : decide ((p.fns.length : Int) ≤ p.main) = false := decide_eq_false m2
      have m5 : p.sites.length < p.fns.length := h.elim (fun e => by unfold inB at e; have := of_decide_eq_false e; omega) id
      clear h m1 m2
      go_enter Tryd.func17, Tryd.ntmps17
      go_wp2_with fail
      refine bodyPost_ret (v := .tuple #[.int .i64 0, .int .i64 0, .int .i64 8]) (by simp [results, Tryd.results17, go_sem]) rfl ⟨rfl, by repeat (first | with_reducible exact grownBy_refl _ _ | with_reducible assumption | with_reducible refine World.grownBy.gr_drew ?_ | with_reducible refine World.grownBy.gr_set ?_ (by simp) _ | with_reducible refine gr_alloc ?_ _)⟩
theorem refCheck_any : Calls Tryd.prog 17 #[prgV p] w fun e w' => e = .returned (triV (checkP p)) ∧ w.grownBy w' none := by
  by_cases h : 200 < p.fns.length ∨ 600 < p.sites.length
  · rw [show checkP p = (0, 0, 5) by unfold checkP; rw [if_pos h]]
    exact refCheck_size p w hp h
  · by_cases h2 : inB p.main p.fns.length = true ∧ p.fns.length ≤ p.sites.length
    · exact refCheck_main p w hp (by omega) (by omega) h2.1 h2.2
    · rw [checkP_no (by omega) (by omega) (by
        cases ha : inB p.main p.fns.length
        · rfl
        · unfold eachB
          rw [decide_eq_false (fun e => h2 ⟨ha, e⟩)]
          rfl)]
      refine refCheck_range p w (by omega) (by omega) ?_
      cases ha : inB p.main p.fns.length
      · exact .inl rfl
      · exact .inr (Nat.lt_of_not_le fun e => h2 ⟨ha, e⟩)
end

end Go.Proofs.YtdknclhbnhiojaaDoor
