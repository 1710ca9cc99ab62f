/- ir: Check, whatever the program. -/
import Derived.Test.YtdknclhbnhiojaaDoorI17
namespace Go.Proofs.YtdknclhbnhiojaaDoor
open Go.RowKit
section
variable (p : Prg) (w : World) (hv : VarsR w) (hp : PrgOk w p)
include hp
set_option maxRecDepth 100000 in
set_option maxHeartbeats 4000000 in
theorem check_size (h : 200 < p.fns.length ∨ 600 < p.sites.length) : Calls Tryd.prog 16 #[prgV p] w fun e w' => e = .returned (triV (0, 0, 5)) ∧ w.grownBy w' none := by
  have l1 := hp.1
  have l2 := hp.2.1
  unfold maxLen at l1 l2
  by_cases h1 : 200 < p.fns.length
  · have e1 : decide (200 < (p.fns.length : Int)) = true := decide_eq_true (by omega)
    clear h h1 hp
    unfold prgV prgC
    go_enter Tryd.func16, Tryd.ntmps16
    go_wp2_with fail
    refine bodyPost_ret (v := .tuple #[.int .i64 0, .int .i64 0, .int .i64 5]) (by simp [results, Tryd.results16, go_sem]) rfl ⟨rfl, by repeat (first | with_reducible exact grownBy_refl _ _ | with_reducible assumption | with_reducible refine World.grownBy.gr_drew ?_ | with_reducible refine World.grownBy.gr_set ?_ (by simp) _ | with_reducible refine gr_alloc ?_ _)⟩
  · have e1 : decide (200 < (p.fns.length : Int)) = false := decide_eq_false (by omega)
    have e2 : decide (600 < (p.sites.length : Int)) = true := decide_eq_true (by omega)
    clear h h1 hp
    unfold prgV prgC
    go_enter Tryd.func16, Tryd.ntmps16
    go_wp2_with fail
    refine bodyPost_ret (v := .tuple #[.int .i64 0, .int .i64 0, .int .i64 5]) (by simp [results, Tryd.results16, go_sem]) rfl ⟨rfl, by repeat (first | with_reducible exact grownBy_refl _ _ | with_reducible assumption | with_reducible refine World.grownBy.gr_drew ?_ | with_reducible refine World.grownBy.gr_set ?_ (by simp) _ | with_reducible refine gr_alloc ?_ _)⟩
set_option maxRecDepth 100000 in
set_option maxHeartbeats 4000000 in
theorem check_range (h1 : p.fns.length ≤ 200) (h2 : p.sites.length ≤ 600) (h : inB p.main p.fns.length = false ∨ eachB p = false) : Calls Tryd.prog 16 #[prgV p] w fun e w' => e = .returned (triV (0, 0, 8)) ∧ w.grownBy w' none := by
  have e1 : decide (200 < (p.fns.length : Int)) = false := decide_eq_false (by omega)
  have e2 : decide (600 < (p.sites.length : Int)) = false := decide_eq_false (by omega)
  have hg0 : w.grownBy (w.alloc (.cells (prgC p) 34)) none := by repeat (first | with_reducible exact grownBy_refl _ _ | with_reducible assumption | with_reducible refine World.grownBy.gr_drew ?_ | with_reducible refine World.grownBy.gr_set ?_ (by simp) _ | with_reducible refine gr_alloc ?_ _)
  have HG0 := Lib.hid hg0
  have HS := Lib.hid (siteEach_any p _ (hp.keep (CellsK.of hg0)))
  have H := Lib.hid h
  clear h hp hg0
  unfold prgV prgC at HS
  unfold prgC at HG0
  unfold prgV prgC
  rcases hin : inB p.main p.fns.length
  · have HIN := Lib.hid hin
    clear hin
    go_enter Tryd.func16, Tryd.ntmps16
    go_wp2_with fail
    refine (within_any _ _ _).mono ?_
    rintro e w1 ⟨rfl, rfl⟩
    rw [HIN.out]
    go_wp2_with fail
    refine bodyPost_ret (v := .tuple #[.int .i64 0, .int .i64 0, .int .i64 8]) (by simp [results, Tryd.results16, go_sem]) rfl ⟨rfl, HG0.out⟩
  · have HIN := Lib.hid hin
    have HEA := Lib.hid (show eachB p = false from H.out.elim (fun e => absurd (hin.symm.trans e) (by decide)) id)
    clear hin
    go_enter Tryd.func16, Tryd.ntmps16
    go_wp2_with fail
    refine (within_any _ _ _).mono ?_
    rintro e w1 ⟨rfl, rfl⟩
    rw [HIN.out]
    go_wp2_with fail
    refine (HS.out).mono ?_
    rintro e w1 ⟨rfl, hg1⟩
    rw [HEA.out]
    have HG1 := Lib.hid (grownBy_trans HG0.out hg1)
    clear hg1
    go_wp2_with fail
    refine bodyPost_ret (v := .tuple #[.int .i64 0, .int .i64 0, .int .i64 8]) (by simp [results, Tryd.results16, go_sem]) rfl ⟨rfl, HG1.out⟩
include hv
theorem check_any : Calls Tryd.prog 16 #[prgV p] w fun e w' => e = .returned (triV (checkP p)) ∧ w.grownBy w' none := by
  unfold checkP
  by_cases h : 200 < p.fns.length ∨ 600 < p.sites.length
  · rw [if_pos h]; exact check_size p w hp h
  · rw [if_neg h]
    by_cases h2 : (inB p.main p.fns.length && eachB p) = true
    · rw [if_pos h2]
      rw [Bool.and_eq_true] at h2
      exact check_loop p w hv hp (by omega) (by omega) h2.1 h2.2
    · rw [if_neg h2]
      refine check_range p w hp (by omega) (by omega) ?_
      cases ha : inB p.main p.fns.length
      · exact .inl rfl
      · cases hb : eachB p
        · exact .inr rfl
        · exact absurd (by rw [ha, hb]; rfl) h2
end

end Go.Proofs.YtdknclhbnhiojaaDoor
