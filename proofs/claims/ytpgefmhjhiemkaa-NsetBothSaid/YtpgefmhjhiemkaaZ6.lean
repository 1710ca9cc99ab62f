/- nset: shown, few. -/
import Derived.Test.YtpgefmhjhiemkaaZ5
namespace Go.Proofs.Ytpgefmhjhiemkaa
open Go.RowKit
theorem Ls.fresh {w W : World} {own : Nat → Option Nat} {L : List (Nat × List Int)} (h : Wd w W own L) (l : List Int) (t : TypeId) (c : Nat) (cs : Array Value) (hcs : cs.toList = intsV l) : Ls (W.alloc (.cells cs t)) own (some ⟨W.heap.size, 0, none⟩) l.length c l :=
  ⟨IntsAt.new W l t _ c cs hcs rfl, fun _ ad e => by
    injection e with e
    subst e
    show own W.heap.size = none
    cases ho : own W.heap.size with
    | none => rfl
    | some m => have := (h.dom _ m ho).2; omega⟩
set_option maxRecDepth 100000 in
set_option maxHeartbeats 4000000 in
/-- few reads no memory: what it tells is a list of the arguments. -/
theorem few_old (A : Option Addr) (n c : Nat) (l : List Int) (w : World) (hA : IntsAt w A n c l) (hc : n ≤ c) (W : World) :
    Calls Try.prog 11 #[.slice A n c] W fun e w' => ∃ B m d, e = .returned (.slice B m d) ∧ IntsAt w B m d (l.take 300) ∧ W = w' := by
  have HA := Lib.hid hA
  obtain rfl : n = l.length := hA.1
  clear hA
  by_cases h : 300 < l.length
  · obtain ⟨ad, rfl, _⟩ := HA.out.at_ (show 0 < l.length by omega)
    go_enter Try.func11, Try.ntmps11
    go_wp2_with fail
    go_ret
    exact ⟨_, _, _, rfl, HA.out.take (by omega), rfl⟩
  · go_enter Try.func11, Try.ntmps11
    go_wp2_with fail
    go_ret
    exact ⟨_, _, _, rfl, by rw [List.take_of_length_le (by omega)]; exact HA.out, rfl⟩
theorem few_any (A : Option Addr) (n c : Nat) (l : List Int) (w : World) (hA : IntsAt w A n c l) (hc : n ≤ c) :
    Calls Try.prog 11 #[.slice A n c] w fun e w' => ∃ B m d, e = .returned (.slice B m d) ∧ IntsAt w B m d (l.take 300) ∧ w = w' := few_old A n c l w hA hc w
theorem mem0 {α : Type} {x : α} {r : List α} : x ∈ x :: r := List.mem_cons_self
theorem mem1 {α : Type} {x y : α} {r : List α} : x ∈ y :: x :: r := List.mem_cons_of_mem _ mem0
theorem mem2 {α : Type} {x y z : α} {r : List α} : x ∈ y :: z :: x :: r := List.mem_cons_of_mem _ mem1
theorem mem3 {α : Type} {x y z u : α} {r : List α} : x ∈ y :: z :: u :: x :: r := List.mem_cons_of_mem _ mem2
theorem sh13a : addsI [] [5, 1, 2, 3] = [1, 2, 3, 5] := by decide +kernel
theorem sh13b : spG none [1, 2, 3, 5] = [1, 3, 5, 5] := by decide +kernel
theorem sh13c : addI13 [1, 2, 3, 5] 4 = ([1, 2, 3, 4, 5], true) := by decide +kernel
theorem sh13d : spG none [1, 2, 3, 4, 5] = [1, 5] := by decide +kernel
set_option maxRecDepth 100000 in
set_option maxHeartbeats 4000000 in
theorem shown_any (w : World) :
    Calls Try.prog 10 #[] w fun e w' => e = .returned (.bool true) ∧ w.grownBy w' none := by
  go_enter Try.func10, Try.ntmps10
  go_wp2_with fail
  refine (wd_new ((Wd.first w).keep (gr_alloc (grownBy_refl _ _) _)) ⟨IntsAt.new w [5, 1, 2, 3] 3 _ 4 _ rfl rfl, fun _ _ _ => rfl⟩ (by simp)).mono ?_
  rintro e w1 ⟨m, o1, rfl, hw, _⟩
  rw [sh13a] at hw
  have HW1 := Lib.hid hw
  clear hw
  go_wp2_with fail
  refine (wd_spans HW1.out mem0).mono ?_
  rintro e w2 ⟨A, n, c, rfl, hL, hg⟩
  rw [sh13b] at hL
  have HL2 := Lib.hid hL
  have HW2 := Lib.hid (HW1.out.keep hg)
  clear hL hg HW1
  go_wp2_with fail
  refine (wd_add 4 HW2.out (by simp)).mono ?_
  rintro e w3 ⟨rfl, o3, hw, hx⟩
  rw [sh13c] at hw ⊢
  have HW3 := Lib.hid (show Wd w w3 o3 [(m, [1, 2, 3, 4, 5])] from hw)
  have HL3 := Lib.hid (HL2.out.ext hx)
  clear hw hx HW2 HL2
  go_wp2_with fail
  refine (wd_spans HW3.out mem0).mono ?_
  rintro e w4 ⟨B, k, d, rfl, hL, hg⟩
  rw [sh13d] at hL
  have HM4 := Lib.hid hL
  have HL4 := Lib.hid (HL3.out.keep hg)
  have HW4 := Lib.hid (HW3.out.keep hg)
  clear hL hg HW3 HL3
  go_wp2_with fail
  refine (Ints_any _ _ _ _ _ _ [1, 3, 5, 5] [1, 3, 5, 5] _ (HL4.out.keep (gr_alloc (grownBy_refl _ _) _)).1 (IntsAt.new w4 [1, 3, 5, 5] 3 _ 4 _ rfl rfl) (by simp)).mono ?_
  rintro e w5 ⟨rfl, hg⟩
  rw [decide_eq_true rfl]
  have hg5 := grownBy_trans (gr_alloc (grownBy_refl w4 none) _) hg
  have HM5 := Lib.hid (HM4.out.keep hg5)
  have HW5 := Lib.hid (HW4.out.keep hg5)
  clear hg hg5 HM4 HL4 HW4
  go_wp2_with fail
  refine (Ints_any _ _ _ _ _ _ [1, 5] [1, 5] _ (HM5.out.keep (gr_alloc (grownBy_refl _ _) _)).1 (IntsAt.new w5 [1, 5] 3 _ 2 _ rfl rfl) (by simp)).mono ?_
  rintro e w6 ⟨rfl, hg⟩
  rw [decide_eq_true rfl]
  have HG6 := Lib.hid (grownBy_trans HW5.out.gr (grownBy_trans (gr_alloc (grownBy_refl w5 none) _) hg))
  clear hg HM5 HW5
  go_wp2_with fail
  go_ret
  exact ⟨rfl, HG6.out⟩

end Go.Proofs.Ytpgefmhjhiemkaa
