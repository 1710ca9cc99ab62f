/- lex.number. -/
import Derived.Test.YthbhlmkgbinegaaDoorN1
namespace Go.Proofs.YthbhlmkgbinegaaDoor
open Go.RowKit
set_option maxHeartbeats 1000000 in
theorem number_zero (s : ByteArray) (w : World) (hs : s.size ≤ 20000) (hv : Vars w) (hn : Hid (hexD s.data.toList = 0)) (hle : 1 ≤ s.size) (hc : (s[0].toNat : Int) = 48)
    (HD : Hid (∀ c ∈ ((s.data.toList.take (1)).drop 0), okDig 10 c)) (hR : Hid (numberR s.data.toList = if 1 < s.data.toList.length ∧ isWb ((s.data.toList.getD (1) 0).toNat : Nat) = true then Tk.bad 2
  else if 9223372036854775808 ≤ valN 10 ((s.data.toList.take (1)).drop 0) then Tk.bad 5
  else ⟨3, 1, valN 10 ((s.data.toList.take (1)).drop 0), 0⟩)) :
    Calls Tryd.prog 28 #[.string s] w fun e w' => e = .returned (tokV s (numberR s.data.toList)) ∧ Below w.heap.size w w' := by
  have hs' : s.size ≤ maxLen := by unfold maxLen; omega
  have hlen : s.data.toList.length = s.size := by simp
  have hd : ∀ c ∈ (s.extract 0 (1)).data.toList, okDig 10 c := by
    rw [ext_mid]; exact HD.out
  have hne : (s.extract 0 (1)).size ≠ 0 := by rw [ByteArray.size_extract]; omega
  have hsz : (s.extract 0 (1)).size ≤ 20000 := by rw [ByteArray.size_extract]; omega
  have HDD := Lib.hid hd
  have HNE := Lib.hid hne
  have HSZ := Lib.hid hsz
  clear hd hne hsz

  have HV := Lib.hid hv
  clear hv
  rw [hlen] at hR
  have Hlen := Lib.hid hlen
  clear hlen
  by_cases hw : 1 < s.size ∧ isWb (s[1]?.getD 0).toNat = true
  · obtain ⟨hw1, hw2⟩ := hw
    have hw3 : isWb ((s[1]'(by omega)).toNat : Nat) = true := by
      rw [getElem?_pos s (1) (by omega)] at hw2; exact hw2
    have hR2 : numberR s.data.toList = Tk.bad 2 := by
      rw [hR.out, if_pos ⟨hw1, by rw [getD_bytes s _ (by omega)]; exact hw3⟩]
    have HR2 := Lib.hid hR2
    have HW := Lib.hid hw3
    clear hw2 hw3 hR2 hR
    go_enter Tryd.func28, Tryd.ntmps28
    go_wp2_with fail
    refine (hd_is 0 _ _ hs' hn).mono ?_
    rintro e w' ⟨rfl, rfl⟩
    go_wp2_with (go_at_call 34; refine (wb_is true _ _ HW.out).mono ?_; rintro e w' ⟨rfl, rfl⟩)
    exact bodyPost_ret (v := .tuple #[.agg #[.int .i64 0, .int .i64 0, .string ⟨#[]⟩, .int .i64 0], .int .i64 2]) (by simp [results, Tryd.results28, go_sem]) rfl ⟨by rw [HR2.out, tokV_bad], below_new _⟩
  · have hR1 : numberR s.data.toList = if 9223372036854775808 ≤ valN 10 ((s.data.toList.take (1)).drop 0) then Tk.bad 5
        else ⟨3, 1, valN 10 ((s.data.toList.take (1)).drop 0), 0⟩ := by
      rw [hR.out, if_neg]
      intro ⟨h1, h2⟩
      exact hw ⟨h1, by rw [getElem?_pos s (1) (by omega)]; rw [getD_bytes s _ (by omega)] at h2; exact h2⟩
    have hW : ∀ (h : 1 < s.size), isWb ((s[1]'(by omega)).toNat : Nat) = false := by
      intro h
      rw [Bool.eq_false_iff]
      intro h2
      exact hw ⟨h, by rw [getElem?_pos s (1) (by omega)]; exact h2⟩
    have HW := Lib.hid hW
    rw [← ext_mid] at hR1
    clear hw hW hR
    by_cases hb : 9223372036854775808 ≤ valN 10 (s.extract 0 (1)).data.toList
    · rw [if_pos hb] at hR1
      have HR1 := Lib.hid hR1
      have HB := Lib.hid hb
      clear hR1 hb
      by_cases hlt : 1 < s.size
      · go_enter Tryd.func28, Tryd.ntmps28
        go_wp2_with fail
        refine (hd_is 0 _ _ hs' hn).mono ?_
        rintro e w' ⟨rfl, rfl⟩
        go_wp2_with (first | (go_at_call 34; refine (wb_is false _ _ (HW.out hlt)).mono ?_; rintro e w' ⟨rfl, rfl⟩) | (go_at_call 45; refine (parse_err 10 (by omega) _ HNE.out HSZ.out HDD.out _ (HV.out.alloc _) HB.out).mono ?_; rintro e w' ⟨N, rfl, hB⟩; have HBB := Lib.hid (below_trans2 hB); obtain ⟨hcc, hff⟩ := bcell hB; have hz := size_lt hB; clear hB))
        refine bodyPost_ret (v := .tuple #[.agg #[.int .i64 0, .int .i64 0, .string ⟨#[]⟩, .int .i64 0], .int .i64 5]) (by simp [results, Tryd.results28, go_sem, hcc]) rfl ⟨by rw [HR1.out, tokV_bad], ?_⟩
        exact (((HBB.out.setCell (Nat.le_refl _) _).setCell (Nat.le_refl _) _).setCell (Nat.le_refl _) _).setCell (Nat.le_refl _) _
      · go_enter Tryd.func28, Tryd.ntmps28
        go_wp2_with fail
        refine (hd_is 0 _ _ hs' hn).mono ?_
        rintro e w' ⟨rfl, rfl⟩
        go_wp2_with (go_at_call 45; refine (parse_err 10 (by omega) _ HNE.out HSZ.out HDD.out _ (HV.out.alloc _) HB.out).mono ?_; rintro e w' ⟨N, rfl, hB⟩; have HBB := Lib.hid (below_trans2 hB); obtain ⟨hcc, hff⟩ := bcell hB; have hz := size_lt hB; clear hB)
        refine bodyPost_ret (v := .tuple #[.agg #[.int .i64 0, .int .i64 0, .string ⟨#[]⟩, .int .i64 0], .int .i64 5]) (by simp [results, Tryd.results28, go_sem, hcc]) rfl ⟨by rw [HR1.out, tokV_bad], ?_⟩
        exact (((HBB.out.setCell (Nat.le_refl _) _).setCell (Nat.le_refl _) _).setCell (Nat.le_refl _) _).setCell (Nat.le_refl _) _
    · rw [if_neg hb] at hR1
      have HR1 := Lib.hid hR1
      have HB := Lib.hid (Nat.lt_of_not_le hb)
      clear hR1 hb
      by_cases hlt : 1 < s.size
      · go_enter Tryd.func28, Tryd.ntmps28
        go_wp2_with fail
        refine (hd_is 0 _ _ hs' hn).mono ?_
        rintro e w' ⟨rfl, rfl⟩
        go_wp2_with (first | (go_at_call 34; refine (wb_is false _ _ (HW.out hlt)).mono ?_; rintro e w' ⟨rfl, rfl⟩) | (go_at_call 45; refine (parse_ok 10 (by omega) _ HNE.out HSZ.out HDD.out _ HB.out).mono ?_; rintro e w' ⟨rfl, hB⟩; have HBB := Lib.hid (below_trans2 hB); obtain ⟨hcc, hff⟩ := bcell hB; have hz := size_lt hB; clear hB))
        refine bodyPost_ret (v := .tuple #[.agg #[.int .i64 3, .int .i64 0, .string (s.extract 0 (1)), .int .i64 (valN 10 (s.extract 0 (1)).data.toList : Nat)], .int .i64 0]) (by simp [results, Tryd.results28, go_sem, hcc]) rfl ⟨by rw [HR1.out, tokV], ?_⟩
        exact (((HBB.out.setCell (Nat.le_refl _) _).setCell (Nat.le_refl _) _).setCell (Nat.le_refl _) _).setCell (Nat.le_refl _) _
      · go_enter Tryd.func28, Tryd.ntmps28
        go_wp2_with fail
        refine (hd_is 0 _ _ hs' hn).mono ?_
        rintro e w' ⟨rfl, rfl⟩
        go_wp2_with (go_at_call 45; refine (parse_ok 10 (by omega) _ HNE.out HSZ.out HDD.out _ HB.out).mono ?_; rintro e w' ⟨rfl, hB⟩; have HBB := Lib.hid (below_trans2 hB); obtain ⟨hcc, hff⟩ := bcell hB; have hz := size_lt hB; clear hB)
        refine bodyPost_ret (v := .tuple #[.agg #[.int .i64 3, .int .i64 0, .string (s.extract 0 (1)), .int .i64 (valN 10 (s.extract 0 (1)).data.toList : Nat)], .int .i64 0]) (by simp [results, Tryd.results28, go_sem, hcc]) rfl ⟨by rw [HR1.out, tokV], ?_⟩
        exact (((HBB.out.setCell (Nat.le_refl _) _).setCell (Nat.le_refl _) _).setCell (Nat.le_refl _) _).setCell (Nat.le_refl _) _
end Go.Proofs.YthbhlmkgbinegaaDoor
