/- ir: allWithin and what it returns; between. -/
import Derived.Test.YtdknclhbnhiojaaDoorI12
namespace Go.Proofs.YtdknclhbnhiojaaDoor
open Go.RowKit
def clos (b : Nat) : Value := .func (.func 35) #[] #[.pointer (some ⟨b, 0, none⟩)]
def AllPost (n : Int) (w : World) (e : Ending) (w' : World) : Prop := ∃ b, e = .returned (clos b) ∧ BoxC #[.int .i64 n] 3 b w' ∧ w.grownBy w' none
set_option maxRecDepth 100000 in
set_option maxHeartbeats 2000000 in
theorem allWithin_any (n : Int) (w : World) :
    Calls Tryd.prog 30 #[.int .i64 n] w (AllPost n w) := by
  go_enter Tryd.func30, Tryd.ntmps30
  go_wp2_with fail
  go_ret
  exact ⟨_, rfl, BoxC.new _ _ _, by repeat (first | with_reducible exact grownBy_refl _ _ | with_reducible assumption | with_reducible refine World.grownBy.gr_drew ?_ | with_reducible refine World.grownBy.gr_set ?_ (by simp) _ | with_reducible refine gr_alloc ?_ _)⟩
def allB (n : Int) (l : List Int) : Bool := l.all (inB · n)
set_option maxRecDepth 100000 in
set_option maxHeartbeats 4000000 in
theorem all1_any (A : Option Addr) (m c : Nat) (l : List Int) (n : Int) (b : Nat) (w : World) (hA : IntsAt w A m c l) (hl : l.length ≤ maxLen) (hb : BoxC #[.int .i64 n] 3 b w) :
    Calls Tryd.prog 35 #[.slice A m c, .pointer (some ⟨b, 0, none⟩)] w fun e w' => e = .returned (.bool (allB n l)) ∧ w.grownBy w' none := by
  unfold maxLen at hl
  have HA := Lib.hid hA
  have HB := Lib.hid hb
  obtain rfl : m = l.length := hA.1
  clear hA hb
  go_enter Tryd.func35, Tryd.ntmps35
  go_wp2_with fail
  go_loop [8] (fun i => ∃ k : Nat, k ≤ l.length ∧ i = .int .i64 k ∧ allB n (l.take k) = true) (fun i => l.length - (intOf i).toNat)
  case atStart => exact ⟨0, Nat.zero_le _, rfl, rfl⟩
  case round =>
    obtain ⟨k, hk, rfl, hall⟩ := hrel
    have HAL := Lib.hid hall
    clear hall
    by_cases hlt : k < l.length
    · obtain ⟨ad, rfl, hc⟩ := HA.out.at_ hlt
      have c0 : w.cell? ⟨b, 0, none⟩ = some (.int .i64 n) := HB.out.cell rfl
      have HTK := Lib.hid (show allB n (l.take (k + 1)) = inB l[k] n by rw [List.take_succ_eq_append_getElem hlt]; unfold allB at HAL ⊢; rw [List.all_append, HAL.out]; simp)
      have HNO := Lib.hid (show inB l[k] n = false → allB n l = false from fun h => List.all_eq_false.2 ⟨_, List.getElem_mem hlt, by simp [h]⟩)
      generalize l[k] = x at *
      go_wp2_with fail
      refine (within_any _ _ _).mono ?_
      rintro e w1 ⟨rfl, rfl⟩
      rcases hin : inB x n
      · have HIN := Lib.hid hin
        clear hin
        go_wp2_with fail
        go_ret
        exact ⟨ret_bool (a := false) (HNO.out HIN.out).symm, grownBy_refl _ _⟩
      · have HIN := Lib.hid hin
        clear hin
        go_wp2_with fail
        go_round
        case rel => exact ⟨k + 1, by omega, by go_num, by rw [HTK.out, HIN.out]⟩
        case measure => simp [intOf]; omega
    · have hkk : k = l.length := by omega
      subst hkk
      have HALL := Lib.hid (show allB n l = true by have := HAL.out; rwa [List.take_length] at this)
      go_wp2_with fail
      go_ret
      exact ⟨ret_bool (a := true) HALL.out.symm, grownBy_refl _ _⟩
def signsT : List (List UInt8) := [[43], [45], [42], [47], [37], [38], [124], [94], [60, 60], [62, 62], [61, 61], [33, 61], [60], [60, 61], [62], [62, 61]]
def betB (s : ByteArray) : Bool := signsT.any fun l => s.toList == l
set_option maxRecDepth 100000 in
set_option maxHeartbeats 4000000 in
theorem between_any (s : ByteArray) (w : World) :
    Calls Tryd.prog 42 #[.string s] w fun e w' => e = .returned (.bool (betB s)) ∧ w = w' := by
  go_enter Tryd.func42, Tryd.ntmps42
  go_wp2_with fail
  all_goals
    go_ret
    first
    | (refine ⟨ret_bool (a := true) ?_, rfl⟩; simp [betB, signsT, *]; done)
    | (refine ⟨ret_bool (a := false) ?_, rfl⟩; simp [betB, signsT, *]; done)
    | (exfalso; simp_all; done)

end Go.Proofs.YtdknclhbnhiojaaDoor
