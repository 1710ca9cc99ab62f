/- covers, all, Has. -/
import Derived.Test.YtpgefmhjhiemkaaZ4
namespace Go.Proofs.Ytpgefmhjhiemkaa
open Go.RowKit
theorem box2 {w : World} {b : Nat} {x : Int × Int} (h : w.heap[b]? = some (.cells (spC x) 47 (0, 0))) : w.cell? ⟨b, 0, none⟩ = some (.int .i64 x.1) ∧ w.cell? ⟨b, 1, none⟩ = some (.int .i64 x.2) := by
  constructor <;> simp [World.cell?, h, spC]
set_option maxRecDepth 100000 in
set_option maxHeartbeats 4000000 in
theorem covers_any (A : Option Addr) (n c : Nat) (S : List (Int × Int)) (x : Int × Int) (w : World) (hn : n = S.length) (hS : SpnAt w A S) (hok : SpOk S) (hl : n ≤ 1000000000000) (hx : x.1 ≤ x.2) :
    Calls Try.prog 35 #[.slice A n c, .agg #[.int .i64 x.1, .int .i64 x.2]] w fun e w' => e = .returned (.bool (covB S x)) ∧ w.grownBy w' none := by
  have HS := Lib.hid hS
  have HOK := Lib.hid hok
  have HN := Lib.hid hn
  have HXX := Lib.hid hx
  obtain ⟨b, hb⟩ : ∃ b, b = covB S x := ⟨_, rfl⟩
  rw [← hb]
  have HB := Lib.hid hb
  obtain ⟨x1, x2⟩ := x
  have HB0 := Lib.hid (heap_alloc_new w (.cells (spC (x1, x2)) 47))
  clear hS hok hn hx hb
  go_enter Try.func35, Try.ntmps35
  go_wp2_with fail
  refine (find_any A n c S x1 _ HN.out (HS.out.keep (by repeat (first | with_reducible exact grownBy_refl _ _ | with_reducible assumption | with_reducible refine World.grownBy.gr_drew ?_ | with_reducible refine World.grownBy.gr_set ?_ (by simp) _ | with_reducible refine gr_alloc ?_ _))) HOK.out hl).mono ?_
  rintro e w1 ⟨i, rfl, hF, hg⟩
  have HF := Lib.hid hF
  have HG := Lib.hid (grownBy_trans (show w.grownBy _ none by repeat (first | with_reducible exact grownBy_refl _ _ | with_reducible assumption | with_reducible refine World.grownBy.gr_drew ?_ | with_reducible refine World.grownBy.gr_set ?_ (by simp) _ | with_reducible refine gr_alloc ?_ _)) hg)
  obtain ⟨d0, d1⟩ := box2 ((hg.block _ (by simp) (by simp)).trans HB0.out)
  have hle := hF.le
  have HCV := Lib.hid (covB_at (x := (x1, x2)) HOK.out HXX.out hF)
  clear hF hg HB0
  by_cases hi : i < n
  · have hi' := hi
    rw [HN.out] at hi'
    have hp := List.getElem?_eq_getElem hi'
    generalize S[i] = p at hp
    obtain ⟨ad, rfl⟩ := HS.out.some_ hi'
    obtain ⟨c0, c1⟩ := sp_cells (HS.out.keep HG.out) hp
    have HP := Lib.hid hp
    clear hp hi' hle
    have g1 : decide ((i : Int) < (n : Int)) = true := decide_eq_true (by omega)
    have g2 : decide (i < n) = true := decide_eq_true hi
    by_cases h1 : p.1 ≤ x1
    · have g3 : decide (p.1 ≤ x1) = true := decide_eq_true h1
      by_cases h2 : x2 ≤ p.2
      · have g4 : decide (x2 ≤ p.2) = true := decide_eq_true h2
        have HR := Lib.hid (HCV.out.2 ⟨p, HP.out, h1, h2⟩)
        clear h1 h2
        go_wp2_with fail
        go_quiet (fail)
        go_wp2_with fail
        go_ret
        exact ⟨by rw [HB.out, HR.out]; rfl, gr_drewN HG.out _⟩
      · have g4 : decide (x2 ≤ p.2) = false := decide_eq_false h2
        have HR := Lib.hid (show covB S (x1, x2) = false from Bool.eq_false_iff.2 fun h => by
          obtain ⟨q, hq, _, h4⟩ := HCV.out.1 h
          rw [HP.out] at hq
          injection hq with hq
          subst hq
          exact h2 h4)
        clear h1 h2
        go_wp2_with fail
        go_quiet (fail)
        go_wp2_with fail
        go_ret
        exact ⟨by rw [HB.out, HR.out]; rfl, gr_drewN HG.out _⟩
    · have g3 : decide (p.1 ≤ x1) = false := decide_eq_false h1
      have HR := Lib.hid (show covB S (x1, x2) = false from Bool.eq_false_iff.2 fun h => by
        obtain ⟨q, hq, h3, _⟩ := HCV.out.1 h
        rw [HP.out] at hq
        injection hq with hq
        subst hq
        exact h1 h3)
      clear h1
      go_wp2_with fail
      go_quiet (fail)
      go_wp2_with fail
      go_ret
      exact ⟨by rw [HB.out, HR.out]; rfl, gr_drewN HG.out _⟩
  · have g1 : decide ((i : Int) < (n : Int)) = false := decide_eq_false (by omega)
    have g2 : decide (i < n) = false := decide_eq_false hi
    have HR := Lib.hid (show covB S (x1, x2) = false from Bool.eq_false_iff.2 fun h => by
      obtain ⟨q, hq, _, _⟩ := HCV.out.1 h
      have := (List.getElem?_eq_some_iff.1 hq).1
      have := HN.out
      omega)
    go_wp2_with fail
    go_quiet (fail)
    go_wp2_with fail
    go_ret
    exact ⟨by rw [HB.out, HR.out]; rfl, gr_drewN HG.out _⟩
/-- A set's runs, whichever world has grown since; where they are told. -/
theorem all_any2 {W : World} {F : Nat → Prop} {o : Option Nat} {E : List Int} (h : SetP W F o E) : ∃ A c S, SpOk S ∧ els S = E ∧ SpnAt W A S ∧ SpIn S ∧ S.length ≤ 1000001 ∧ S.length ≤ c ∧ (A = none → c = 0) ∧
    (∀ W', W.grownBy W' none → Calls Try.prog 34 #[ptrV o] W' fun e w' => e = .returned (.slice A S.length c) ∧ W' = w') ∧ (S ≠ [] → ∃ t, o = some t ∧ W.heap[t]? = some (.cells #[.slice A S.length c] 44 (0, 0))) := by
  cases o with
  | none =>
    refine ⟨none, 0, [], trivial, h.symm, .inl rfl, (fun p hp => by cases hp), by simp, by simp, fun _ => rfl, fun W' _ => ?_, fun h => absurd rfl h⟩
    unfold ptrV
    rw [Option.map_none]
    go_enter Try.func34, Try.ntmps34
    go_wp2_with fail
    go_ret
    exact ⟨rfl, rfl⟩
  | some m =>
    have h' : SetAt W F m E := h
    obtain ⟨v, S, h1, h2, h3, h4, _⟩ := h'.body
    have hin := SpIn.of h1 (by rw [h2]; exact h'.ok.2)
    obtain ⟨A, c, rfl, hc, hnc, hs⟩ := h4.spn
    refine ⟨A, c, S, h1, h2, hs, hin, sp_short h1 hin, hc, hnc, fun W' g => ?_, fun _ => ⟨m, rfl, h3⟩⟩
    have e := (g.block m (lt_of_heap h3) (by simp)).trans h3
    have d0 : W'.cell? ⟨m, 0, none⟩ = some (.slice A S.length c) := by simp [World.cell?, e]
    unfold ptrV
    rw [Option.map_some]
    clear h h' h1 h2 h3 h4 hin hs e g hc hnc
    go_enter Try.func34, Try.ntmps34
    go_wp2_with fail
    go_ret
    exact ⟨rfl, rfl⟩
theorem all_any {W : World} {F : Nat → Prop} {o : Option Nat} {E : List Int} (h : SetP W F o E) : ∃ A c S, SpOk S ∧ els S = E ∧ SpnAt W A S ∧ SpIn S ∧ S.length ≤ 1000001 ∧ S.length ≤ c ∧ (A = none → c = 0) ∧
    ∀ W', W.grownBy W' none → Calls Try.prog 34 #[ptrV o] W' fun e w' => e = .returned (.slice A S.length c) ∧ W' = w' := by
  obtain ⟨A, c, S, h1, h2, h3, h4, h5, h6, h7, h8, _⟩ := all_any2 h
  exact ⟨A, c, S, h1, h2, h3, h4, h5, h6, h7, h8⟩
set_option maxRecDepth 100000 in
set_option maxHeartbeats 4000000 in
theorem Has13 (F : Nat → Prop) (o : Option Nat) (E : List Int) (x : Int) (W : World) (h : SetP W F o E) :
    Calls Try.prog 20 #[ptrV o, .int .i64 x] W fun e w' => e = .returned (.bool (decide (x ∈ E))) ∧ W.grownBy w' none := by
  obtain ⟨A, c, S, h1, rfl, h3, h4, h5, _, _, hall⟩ := all_any h
  obtain ⟨p, hp⟩ : ∃ p, p = ptrV o := ⟨_, rfl⟩
  rw [← hp] at hall ⊢
  have HA := Lib.hid hall
  have HC := Lib.hid (covB_one (n := x) h1)
  have HV := Lib.hid (fun (w : World) (g : W.grownBy w none) => covers_any A S.length c S (x, x) w rfl (h3.keep g) h1 (by omega) (Int.le_refl _))
  clear hall h1 h3 h4 h h5 hp
  go_enter Try.func20, Try.ntmps20
  go_wp2_with fail
  refine (HA.out _ (grownBy_refl _ _)).mono ?_
  rintro e w1 ⟨rfl, rfl⟩
  go_wp2_with fail
  refine (HV.out _ (grownBy_refl _ _)).mono ?_
  rintro e w1 ⟨rfl, hg⟩
  rw [HC.out]
  have HG := Lib.hid hg
  clear hg
  go_wp2_with fail
  go_ret
  exact ⟨rfl, HG.out⟩

end Go.Proofs.Ytpgefmhjhiemkaa
