/- What unite's functions do. -/
import Derived.Test.YteblcmebhfjbnaaUe
namespace Go.Proofs.Yteblcmebhfjbnaa
open Go.RowKit
theorem wc_keep {W w' : World} {F : Nat → Prop} {m : Nat} {g : List Nat} (h : GrpAt W F m g) (k : W.grownBy w' none) : Upd W w' F m g := ⟨F, h.gr k, Touch.of_gr k, fun _ h => .inl h⟩
theorem Find14 (F : Nat → Prop) (m : Nat) (g : List Nat) (i : Int) (W : World) (h : GrpAt W F m g) :
    Calls Try.prog 14 #[.pointer (some ⟨m, 0, none⟩), .int .i64 i] W fun e w' => e = .returned (.int .i64 (findI g i)) ∧ Upd W w' F m g := by
  obtain ⟨b, l, h1, h2, h3, h4, h5⟩ := h.body
  rcases findI_cases g i with ⟨hn, e⟩ | ⟨j, k, rfl, hk, e⟩
  · rw [e]
    exact (find_no i (len_at h4) (decide_eq_false hn)).mono fun e w' ⟨a, b⟩ => ⟨a, by subst b; exact wc_keep h (grownBy_refl _ _)⟩
  · rw [e]
    exact (find_yes h4 h5 h1 hk).mono fun e w' ⟨a, b⟩ => ⟨a, wc_keep h b⟩
theorem Size14 (F : Nat → Prop) (m : Nat) (g : List Nat) (i : Int) (W : World) (h : GrpAt W F m g) :
    Calls Try.prog 19 #[.pointer (some ⟨m, 0, none⟩), .int .i64 i] W fun e w' => e = .returned (.int .i64 (sizI g i)) ∧ Upd W w' F m g := by
  obtain ⟨b, l, h1, h2, h3, h4, h5⟩ := h.body
  rcases findI_cases g i with ⟨hn, e⟩ | ⟨j, k, rfl, hk, e⟩
  · rw [show sizI g i = 0 by unfold sizI; rw [e, if_pos (by omega)]]
    exact (size_no i (len_at h4) (decide_eq_false hn)).mono fun e w' ⟨a, b⟩ => ⟨a, by subst b; exact wc_keep h (grownBy_refl _ _)⟩
  · rw [show sizI g (j : Int) = sizG g k by unfold sizI; rw [e, if_neg (by omega), Int.toNat_natCast]]
    exact (size_yes h4 h5 h1 hk).mono fun e w' ⟨a, b⟩ => ⟨a, wc_keep h b⟩
theorem Join14 (F : Nat → Prop) (m : Nat) (g : List Nat) (a b : Int) (W : World) (h : GrpAt W F m g) :
    Calls Try.prog 13 #[.pointer (some ⟨m, 0, none⟩), .int .i64 a, .int .i64 b] W fun e w' => e = .returned (.bool (joinG g a b).2) ∧ Upd W w' F m (joinG g a b).1 := by
  obtain ⟨p, l, h1, h2, h3, h4, h5⟩ := h.body
  have no : (joinG g a b = (g, false)) → Calls Try.prog 13 #[.pointer (some ⟨m, 0, none⟩), .int .i64 a, .int .i64 b] W (fun e w' => e = .returned (.bool false) ∧ W = w') → Calls Try.prog 13 #[.pointer (some ⟨m, 0, none⟩), .int .i64 a, .int .i64 b] W fun e w' => e = .returned (.bool (joinG g a b).2) ∧ Upd W w' F m (joinG g a b).1 := fun e hc => by
    rw [e]
    exact hc.mono fun e w' ⟨a, b⟩ => ⟨a, by subst b; exact wc_keep h (grownBy_refl _ _)⟩
  rcases findI_cases g a with ⟨hn, e1⟩ | ⟨i, x, rfl, hi, e1⟩
  · exact no (if_pos (.inl (by omega))) (join_no a b (len_at h4) (.inl (decide_eq_false hn)))
  rcases findI_cases g b with ⟨hn, e2⟩ | ⟨j, y, rfl, hj, e2⟩
  · exact no (if_pos (.inr (.inl (by omega)))) (join_no _ b (len_at h4) (.inr (decide_eq_false hn)))
  by_cases hxy : x = y
  · subst hxy
    exact no (if_pos (.inr (.inr (by rw [e1, e2])))) (join_one h4 h5 h1 hi hj)
  · have hx := (h.ok.1 i x hi).2
    have hy := (h.ok.1 j y hj).2
    have hmin : g[min x y]? = some (min x y) := by
      rcases Nat.le_total x y with e | e
      · rw [Nat.min_eq_left e]; exact hx
      · rw [Nat.min_eq_right e]; exact hy
    have hmax : g[max x y]? = some (max x y) := by
      rcases Nat.le_total x y with e | e
      · rw [Nat.max_eq_right e]; exact hy
      · rw [Nat.max_eq_left e]; exact hx
    have hc := cntG_join hmin hmax (by omega)
    have e : joinG g (i : Int) (j : Int) = (relab (min x y) (max x y) g, true) := by
      unfold joinG
      rw [if_neg (by rw [e1, e2]; omega), e1, e2, Int.toNat_natCast, Int.toNat_natCast]
    rw [e]
    have hcl : cntG g ≤ g.length := by
      unfold cntG
      have : ∀ (p : Nat → Bool) (n : Nat), cntP p n ≤ n := fun p n => by
        induction n with
        | zero => exact Nat.le_refl _
        | succ n ih => rw [cntP]; split <;> omega
      exact this _ _
    have hgl := h.ok.2
    rw [hc] at h4
    refine (join_two h4 h5 h1 hi hj hxy hgl (by omega) h2).mono ?_
    rintro e w' ⟨rfl, ⟨l', k1, k2, k3⟩, ht⟩
    have hs := ht.size
    refine ⟨rfl, F, ⟨h.own, fun k hk => by have := h.lt k hk; omega, ⟨relab_ok h.ok.1 hmin (by omega), by rw [relab_len]; exact hgl⟩, p, l', k1, h2, h3, by rw [relab_len]; exact k2, k3⟩, ⟨ht.os, ht.tape, ht.output, ht.size, fun k hk hn => ht.block k hk fun e => hn ?_⟩, fun k hk => .inl hk⟩
    rcases e with rfl | rfl
    · exact h3
    · exact h.own
theorem Count14 (F : Nat → Prop) (m : Nat) (g : List Nat) (W : World) (h : GrpAt W F m g) :
    Calls Try.prog 17 #[.pointer (some ⟨m, 0, none⟩)] W fun e w' => e = .returned (.int .i64 (cntG g)) ∧ W.grownBy w' none := by
  obtain ⟨b, l, h1, h2, h3, h4, h5⟩ := h.body
  exact (count_at h4).mono fun e w' ⟨a, b⟩ => ⟨a, by subst b; exact grownBy_refl _ _⟩
theorem Len14 (F : Nat → Prop) (m : Nat) (g : List Nat) (W : World) (h : GrpAt W F m g) :
    Calls Try.prog 16 #[.pointer (some ⟨m, 0, none⟩)] W fun e w' => e = .returned (.int .i64 g.length) ∧ W.grownBy w' none := by
  obtain ⟨b, l, h1, h2, h3, h4, h5⟩ := h.body
  exact (len_at h4).mono fun e w' ⟨a, b⟩ => ⟨a, by subst b; exact grownBy_refl _ _⟩
theorem len_nil0 (W : World) : Calls Try.prog 16 #[.pointer none] W fun e w' => e = .returned (.int .i64 ((0 : Nat) : Int)) ∧ W = w' := len_nil W
theorem inG_nil (i : Int) : inG 0 i = false := decide_eq_false (by omega)
theorem Find14_nil (i : Int) (W : World) :
    Calls Try.prog 14 #[.pointer none, .int .i64 i] W fun e w' => e = .returned (.int .i64 (-1)) ∧ W.grownBy w' none :=
  (find_no i (len_nil0 W) (inG_nil i)).mono fun e w' ⟨a, b⟩ => ⟨a, by subst b; exact grownBy_refl _ _⟩
theorem Join14_nil (a b : Int) (W : World) :
    Calls Try.prog 13 #[.pointer none, .int .i64 a, .int .i64 b] W fun e w' => e = .returned (.bool false) ∧ W.grownBy w' none :=
  (join_no a b (len_nil0 W) (.inl (inG_nil a))).mono fun e w' ⟨a, b⟩ => ⟨a, by subst b; exact grownBy_refl _ _⟩
theorem Size14_nil (i : Int) (W : World) :
    Calls Try.prog 19 #[.pointer none, .int .i64 i] W fun e w' => e = .returned (.int .i64 0) ∧ W.grownBy w' none :=
  (size_no i (len_nil0 W) (inG_nil i)).mono fun e w' ⟨a, b⟩ => ⟨a, by subst b; exact grownBy_refl _ _⟩
theorem Count14_nil (W : World) :
    Calls Try.prog 17 #[.pointer none] W fun e w' => e = .returned (.int .i64 0) ∧ W.grownBy w' none :=
  (count_nil W).mono fun e w' ⟨a, b⟩ => ⟨a, by subst b; exact grownBy_refl _ _⟩
theorem Len14_nil (W : World) :
    Calls Try.prog 16 #[.pointer none] W fun e w' => e = .returned (.int .i64 0) ∧ W.grownBy w' none :=
  (len_nil W).mono fun e w' ⟨a, b⟩ => ⟨a, by subst b; exact grownBy_refl _ _⟩

end Go.Proofs.Yteblcmebhfjbnaa
