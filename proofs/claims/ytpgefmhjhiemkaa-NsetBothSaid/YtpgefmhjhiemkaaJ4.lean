/- Len. -/
import Derived.Test.YtpgefmhjhiemkaaJ3
namespace Go.Proofs.Ytpgefmhjhiemkaa
open Go.RowKit
/-- How many numbers stand in the first q runs, and where the loop stands. -/
def LnRel (S : List (Int × Int)) (w : World) (n i : Value) (wr : World) : Prop :=
  ∃ q k : Nat, q ≤ S.length ∧ n = .int .i64 k ∧ i = .int .i64 q ∧ k = (els (S.take q)).length ∧ w.grownBy wr none
theorem els_take_le (S : List (Int × Int)) (q : Nat) : (els (S.take q)).length ≤ (els S).length := by
  conv => rhs; rw [← List.take_append_drop q S]
  rw [els_app, List.length_append]
  omega
set_option maxRecDepth 100000 in
set_option maxHeartbeats 4000000 in
theorem Len13 (F : Nat → Prop) (o : Option Nat) (E : List Int) (W : World) (h : SetP W F o E) :
    Calls Try.prog 19 #[ptrV o] W fun e w' => e = .returned (.int .i64 E.length) ∧ W.grownBy w' none := by
  obtain ⟨A, c, S, h1, rfl, h3, h4, h5, h6, _, hall⟩ := all_any h
  obtain ⟨p, hp⟩ : ∃ p, p = ptrV o := ⟨_, rfl⟩
  rw [← hp] at hall ⊢
  have HA := Lib.hid hall
  have HOK := Lib.hid h1
  have HIN := Lib.hid h4
  have HS := Lib.hid h3
  have hsh := els_short h1 h4
  obtain ⟨N, hN⟩ : ∃ N, N = (els S).length := ⟨_, rfl⟩
  rw [← hN] at hsh ⊢
  have HNN := Lib.hid hN
  clear hall h1 h3 h4 h hp hN
  go_enter Try.func19, Try.ntmps19
  go_wp2_with fail
  refine (HA.out _ (grownBy_refl _ _)).mono ?_
  rintro e w1 ⟨rfl, rfl⟩
  go_wp2_with fail
  go_loopw [3, 9] (fun n i wr => LnRel S W n i wr) (fun _ i _ => S.length - (intOf i).toNat)
  case atStart => exact ⟨0, 0, Nat.zero_le _, rfl, rfl, by simp [els], grownBy_refl _ _⟩
  case round =>
    obtain ⟨q, k, hq, rfl, rfl, hk, hg⟩ := hrel
    have HG := Lib.hid hg
    have HK := Lib.hid hk
    have hkb : k ≤ 1000001 := by
      have := els_take_le S q
      have := HNN.out
      omega
    clear hg hk
    by_cases hlt : q < S.length
    · have hx := List.getElem?_eq_getElem hlt
      generalize S[q] = x at hx
      obtain ⟨ad, rfl⟩ := HS.out.some_ hlt
      obtain ⟨c0, c1⟩ := sp_cells (HS.out.keep HG.out) hx
      have hx1 := HOK.out.le hx
      have hx2 := HIN.out x (List.mem_of_getElem? hx)
      obtain ⟨h10, h20⟩ := hx2
      have HX := Lib.hid (show (els (S.take (q + 1))).length = k + (x.2 - x.1 + 1).toNat by rw [els_take hx, List.length_append, seqI_len, HK.out])
      clear hx
      go_wp2_with fail
      go_roundw
      case rel => exact ⟨q + 1, k + (x.2 - x.1 + 1).toNat, by omega, by go_num, by go_num, HX.out.symm, by (repeat (first | with_reducible exact grownBy_refl _ _ | with_reducible assumption | with_reducible refine World.grownBy.gr_drew ?_ | with_reducible refine World.grownBy.gr_set ?_ (by simp) _ | with_reducible refine gr_alloc ?_ _)); exact HG.out⟩
      case measure => simp [intOf]; omega
    · obtain rfl : q = S.length := by omega
      have HE := Lib.hid (show k = N by rw [HK.out, HNN.out, List.take_length])
      go_wp2_with fail
      go_ret
      exact ⟨by rw [HE.out]; rfl, HG.out⟩

end Go.Proofs.Ytpgefmhjhiemkaa
