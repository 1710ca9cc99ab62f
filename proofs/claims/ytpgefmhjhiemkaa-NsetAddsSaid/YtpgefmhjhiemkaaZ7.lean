/- NsetAdds, walked. -/
import Derived.Test.YtpgefmhjhiemkaaZ6
namespace Go.Proofs.Ytpgefmhjhiemkaa
open Go.RowKit
/-- The state of NsetAdds: the set, and the document's list. -/
def AdR (w : World) (m : Nat) (l : List Int) (i r : Value) (wr : World) : Prop :=
  ∃ (q : Nat) (own : Nat → Option Nat) (A : Option Addr) (n c : Nat), q ≤ l.length ∧ i = .int .i64 q ∧ r = .slice A n c ∧ Ls wr own A n c (addsI [] (l.take q)) ∧ Wd w wr own [(m, addsI [] (l.take q))]
set_option maxRecDepth 100000 in
set_option maxHeartbeats 4000000 in
theorem adds_walk (A : Option Addr) (n c : Nat) (l : List Int) (x : Int) (w : World) (hA : IntsAt w A n c l) (hc : n ≤ c) :
    Calls Try.prog 3 #[.slice A n c, .int .i64 x] w fun e w' => e = .returned (.bool true) ∧ w.grownBy w' none := by
  have HA := Lib.hid hA
  go_enter Try.func3, Try.ntmps3
  go_wp2_with fail
  refine (shown_any w).mono ?_
  rintro e w1 ⟨rfl, hg⟩
  have HG1 := Lib.hid hg
  clear hg
  go_wp2_with fail
  refine (few_any A n c l w1 (HA.out.keep HG1.out) hc).mono ?_
  rintro e w2 ⟨B, m, d, rfl, hI, rfl⟩
  have hl3 : (l.take 300).length ≤ 300 := by rw [List.length_take]; omega
  generalize l.take 300 = k at *
  have HW1 := Lib.hid ((Wd.first w1))
  have HI1 := Lib.hid hI
  clear hI hA hc HA
  go_wp2_with fail
  refine (wd_new HW1.out (Ls.nil w1 _) (by simp)).mono ?_
  rintro e w2 ⟨s, o2, rfl, hw, _⟩
  have HW2 := Lib.hid (show Wd w1 w2 o2 [(s, [])] from hw)
  clear hw HW1
  have hm := HI1.out.1
  subst hm
  go_wp2_with fail
  go_loopw [8, 7] (fun i r wr => AdR w1 s k i r wr) (fun i _ _ => k.length - (intOf i).toNat)
  case atStart => exact ⟨0, o2, none, 0, 0, Nat.zero_le _, rfl, rfl, Ls.nil _ _, HW2.out⟩
  case round =>
    obtain ⟨q, o, C, j, f, hq, rfl, rfl, hL, hW⟩ := hrel
    have HL := Lib.hid hL
    have HW := Lib.hid hW
    clear hL hW
    have hlen := addsI_len_le (k.take q) []
    rw [List.length_take, List.length_nil] at hlen
    by_cases hlt : q < k.length
    · have HX := Lib.hid (show k[q]? = some k[q] from List.getElem?_eq_getElem hlt)
      generalize k[q] = y at HX
      obtain ⟨ad, rfl, _⟩ := HI1.out.at_ hlt
      have hc1 := (HI1.out.keep HW.out.gr).cellOf HX.out
      have HTK := Lib.hid (show addsI [] (k.take (q + 1)) = (addI13 (addsI [] (k.take q)) y).1 by rw [List.take_add_one, HX.out]; exact addsI_snoc _ _ _)
      go_wp2_with fail
      refine (r13_Add_any C j f _ y wr HL.out.1 (by omega)).mono ?_
      rintro e w3 ⟨C', j', f', rfl, hI', hg, hC'⟩
      have HW3 := Lib.hid (HW.out.keep hg)
      have HL3 := Lib.hid (Ls.made2 HW.out HL.out hI' hC')
      have hc3 := (HI1.out.keep HW3.out.gr).cellOf HX.out
      clear hI' hg hC' hc1
      go_wp2_with fail
      refine (wd_add y HW3.out (by simp)).mono ?_
      rintro e w4 ⟨rfl, o4, hw, hx⟩
      have HW4 := Lib.hid hw
      have HL4 := Lib.hid (HL3.out.ext hx)
      clear hw hx hc3 HW3 HL3
      go_wp2_with fail
      go_roundw
      case rel => exact ⟨q + 1, o4, _, _, _, by omega, by go_num, rfl, by rw [HTK.out]; exact HL4.out, by rw [HTK.out]; exact HW4.out⟩
      case measure => simp [intOf]; omega
    · have HE := Lib.hid (show k.take q = k from List.take_of_length_le (by omega))
      rw [HE.out] at HL HW hlen
      have HOK := Lib.hid (HW.out.sets s _ mem0).ok
      obtain ⟨E, hE⟩ : ∃ E, E = addsI [] k := ⟨_, rfl⟩
      rw [← hE] at HL HW HOK hlen
      have HEE := Lib.hid hE
      have hlE : E.length ≤ 1000 := by omega
      clear hE hlen
      obtain rfl : j = E.length := HL.out.1.1
      go_wp2_with fail
      refine (wd_list HW.out mem0).mono ?_
      rintro e w3 ⟨A1, n1, c1, rfl, hL1, hg⟩
      have HL1 := Lib.hid hL1
      have HL3 := Lib.hid (HL.out.keep hg)
      have HW3 := Lib.hid (HW.out.keep hg)
      clear hL1 hg HL HW
      go_wp2_with fail
      refine (Ints_any _ _ _ _ _ _ E E _ HL1.out.1 HL3.out.1 (by omega)).mono ?_
      rintro e w4 ⟨rfl, hg⟩
      rw [decide_eq_true rfl]
      have HL4 := Lib.hid (HL3.out.keep hg)
      have HW4 := Lib.hid (HW3.out.keep hg)
      clear hg HL3 HW3 HL1
      go_wp2_with fail
      refine (wd_spans HW4.out mem0).mono ?_
      rintro e w5 ⟨A2, n2, c2, rfl, hL1, hg⟩
      have HS5 := Lib.hid hL1
      have HL5 := Lib.hid (HL4.out.keep hg)
      have HW5 := Lib.hid (HW4.out.keep hg)
      clear hL1 hg HL4 HW4
      go_wp2_with fail
      refine (r13_Spans_any _ _ _ E _ HL5.out.1 (by omega) HOK.out.2).mono ?_
      rintro e w6 ⟨A3, n3, c3, rfl, hI, hg, _⟩
      have HI6 := Lib.hid hI
      have HS6 := Lib.hid (HS5.out.keep hg)
      have HL6 := Lib.hid (HL5.out.keep hg)
      have HW6 := Lib.hid (HW5.out.keep hg)
      clear hI hg HL5 HW5 HS5
      go_wp2_with fail
      refine (Ints_any _ _ _ _ _ _ (spG none E) (spG none E) _ HS6.out.1 HI6.out (Nat.le_trans (spG_len E none) (by omega))).mono ?_
      rintro e w7 ⟨rfl, hg⟩
      rw [decide_eq_true rfl]
      have HL7 := Lib.hid (HL6.out.keep hg)
      have HW7 := Lib.hid (HW6.out.keep hg)
      clear hg HL6 HW6 HS6 HI6
      go_wp2_with fail
      refine (wd_len HW7.out mem0).mono ?_
      rintro e w8 ⟨rfl, hg⟩
      have HL8 := Lib.hid (HL7.out.keep hg)
      have HW8 := Lib.hid (HW7.out.keep hg)
      clear hg HL7 HW7
      go_wp2_with fail
      refine (wd_has x HW8.out mem0).mono ?_
      rintro e w9 ⟨rfl, hg⟩
      have HL9 := Lib.hid (HL8.out.keep hg)
      have HW9 := Lib.hid (HW8.out.keep hg)
      clear hg HL8 HW8
      obtain ⟨b, hb⟩ : ∃ b, b = decide (x ∈ E) := ⟨_, rfl⟩
      rw [← hb]
      have HBB := Lib.hid hb
      clear hb
      go_wp2_with fail
      refine (r13_Has_any _ _ _ E x _ HL9.out.1 (by omega)).mono ?_
      rintro e w10 ⟨rfl, hg⟩
      rw [← HBB.out]
      have HL10 := Lib.hid (HL9.out.keep hg)
      have HW10 := Lib.hid (HW9.out.keep hg)
      clear hg HL9 HW9 HBB
      cases b
      all_goals
        go_wp2_with fail
        refine (wd_new HW10.out (Ls.arg HW10.out HI1.out) (by omega)).mono ?_
        rintro e w11 ⟨t, o11, rfl, hw, hx, _⟩
        rw [← HEE.out] at hw
        have HW11 := Lib.hid hw
        have HL11 := Lib.hid (HL10.out.ext hx)
        clear hw hx HL10 HW10
        go_wp2_with fail
        refine (wd_list HW11.out mem0).mono ?_
        rintro e w12 ⟨A4, n4, c4, rfl, hL1, hg⟩
        have HM12 := Lib.hid hL1
        have HL12 := Lib.hid (HL11.out.keep hg)
        have HW12 := Lib.hid (HW11.out.keep hg)
        clear hL1 hg HL11 HW11
        go_wp2_with fail
        refine (Ints_any _ _ _ _ _ _ E E _ HM12.out.1 HL12.out.1 (by omega)).mono ?_
        rintro e w13 ⟨rfl, hg⟩
        rw [decide_eq_true rfl]
        have HG13 := Lib.hid (grownBy_trans HG1.out (grownBy_trans HW12.out.gr hg))
        clear hg HL12 HW12 HM12
        go_wp2_with fail
        go_ret
        exact ⟨rfl, HG13.out⟩

end Go.Proofs.Ytpgefmhjhiemkaa
