/- lex.number. -/
import Derived.Test.YthbhlmkgbinegaaDoorN1
namespace Go.Proofs.YthbhlmkgbinegaaDoor
open Go.RowKit
set_option maxHeartbeats 1000000 in
theorem number_hex (s : ByteArray) (w : World) (hs : s.size ≤ 20000) (hv : Vars w) (m : Nat) (hn : Hid (hexD s.data.toList = m)) (h0 : 0 < m) (hle : 2 + m ≤ s.size) (hc : (s[0].toNat : Int) = 48)
    (HD : Hid (∀ c ∈ ((s.data.toList.take (2 + m)).drop 2), okDig 16 c)) (hR : Hid (numberR s.data.toList = if 2 + m < s.data.toList.length ∧ isWb ((s.data.toList.getD (2 + m) 0).toNat : Nat) = true then Tk.bad 2
  else if 9223372036854775808 ≤ valN 16 ((s.data.toList.take (2 + m)).drop 2) then Tk.bad 5
  else ⟨3, 2 + m, valN 16 ((s.data.toList.take (2 + m)).drop 2), 0⟩)) :
    Calls Tryd.prog 28 #[.string s] w fun e w' => e = .returned (tokV s (numberR s.data.toList)) ∧ Below w.heap.size w w' := by
  have hs' : s.size ≤ maxLen := by unfold maxLen; omega
  have hlen : s.data.toList.length = s.size := by simp
  have hd : ∀ c ∈ (s.extract 2 (2 + m)).data.toList, okDig 16 c := by
    rw [ext_mid]; exact HD.out
  have hne : (s.extract 2 (2 + m)).size ≠ 0 := by rw [ByteArray.size_extract]; omega
  have hsz : (s.extract 2 (2 + m)).size ≤ 20000 := by rw [ByteArray.size_extract]; omega
  have HDD := Lib.hid hd
  have HNE := Lib.hid hne
  have HSZ := Lib.hid hsz
  clear hd hne hsz

  have HV := Lib.hid hv
  clear hv
  rw [hlen] at hR
  have Hlen := Lib.hid hlen
  clear hlen
  by_cases hw : 2 + m < s.size ∧ isWb (s[2 + m]?.getD 0).toNat = true
  · obtain ⟨hw1, hw2⟩ := hw
    have hw3 : isWb ((s[2 + m]'(by omega)).toNat : Nat) = true := by
      rw [getElem?_pos s (2 + m) (by omega)] at hw2; exact hw2
    have hR2 : numberR s.data.toList = Tk.bad 2 := by
      rw [hR.out, if_pos ⟨hw1, by rw [getD_bytes s _ (by omega)]; exact hw3⟩]
    have HR2 := Lib.hid hR2
    have HW := Lib.hid hw3
    clear hw2 hw3 hR2 hR
    go_enter Tryd.func28, Tryd.ntmps28
    go_wp2_with fail
    refine (hd_is m _ _ hs' hn).mono ?_
    rintro e w' ⟨rfl, rfl⟩
    go_wp2_with (go_at_call 34; refine (wb_is true _ _ HW.out).mono ?_; rintro e w' ⟨rfl, rfl⟩)
    exact bodyPost_ret (v := .tuple #[.agg #[.int .i64 0, .int .i64 0, .string ⟨#[]⟩, .int .i64 0], .int .i64 2]) (by simp [results, Tryd.results28, go_sem]) rfl ⟨by rw [HR2.out, tokV_bad], below_new _⟩
  · have hR1 : numberR s.data.toList = if 9223372036854775808 ≤ valN 16 ((s.data.toList.take (2 + m)).drop 2) then Tk.bad 5
        else ⟨3, 2 + m, valN 16 ((s.data.toList.take (2 + m)).drop 2), 0⟩ := by
      rw [hR.out, if_neg]
      intro ⟨h1, h2⟩
      exact hw ⟨h1, by rw [getElem?_pos s (2 + m) (by omega)]; rw [getD_bytes s _ (by omega)] at h2; exact h2⟩
    have hW : ∀ (h : 2 + m < s.size), isWb ((s[2 + m]'(by omega)).toNat : Nat) = false := by
      intro h
      rw [Bool.eq_false_iff]
      intro h2
      exact hw ⟨h, by rw [getElem?_pos s (2 + m) (by omega)]; exact h2⟩
    have HW := Lib.hid hW
    rw [← ext_mid] at hR1
    clear hw hW hR
    by_cases hb : 9223372036854775808 ≤ valN 16 (s.extract 2 (2 + m)).data.toList
    · rw [if_pos hb] at hR1
      have HR1 := Lib.hid hR1
      have HB := Lib.hid hb
      clear hR1 hb
      by_cases hlt : 2 + m < s.size
      · go_enter Tryd.func28, Tryd.ntmps28
        go_wp2_with fail
        refine (hd_is m _ _ hs' hn).mono ?_
        rintro e w' ⟨rfl, rfl⟩
        go_wp2_with (first | (go_at_call 34; refine (wb_is false _ _ (HW.out hlt)).mono ?_; rintro e w' ⟨rfl, rfl⟩) | (go_at_call 45; refine (parse_err 16 (by omega) _ HNE.out HSZ.out HDD.out _ (HV.out.alloc _) HB.out).mono ?_; rintro e w' ⟨N, rfl, hB⟩; have HBB := Lib.hid (below_trans2 hB); obtain ⟨hcc, hff⟩ := bcell hB; have hz := size_lt hB; clear hB))
        refine bodyPost_ret (v := .tuple #[.agg #[.int .i64 0, .int .i64 0, .string ⟨#[]⟩, .int .i64 0], .int .i64 5]) (by simp [results, Tryd.results28, go_sem, hcc]) rfl ⟨by rw [HR1.out, tokV_bad], ?_⟩
        exact (((HBB.out.setCell (Nat.le_refl _) _).setCell (Nat.le_refl _) _).setCell (Nat.le_refl _) _).setCell (Nat.le_refl _) _
      · go_enter Tryd.func28, Tryd.ntmps28
        go_wp2_with fail
        refine (hd_is m _ _ hs' hn).mono ?_
        rintro e w' ⟨rfl, rfl⟩
        go_wp2_with (go_at_call 45; refine (parse_err 16 (by omega) _ HNE.out HSZ.out HDD.out _ (HV.out.alloc _) HB.out).mono ?_; rintro e w' ⟨N, rfl, hB⟩; have HBB := Lib.hid (below_trans2 hB); obtain ⟨hcc, hff⟩ := bcell hB; have hz := size_lt hB; clear hB)
        refine bodyPost_ret (v := .tuple #[.agg #[.int .i64 0, .int .i64 0, .string ⟨#[]⟩, .int .i64 0], .int .i64 5]) (by simp [results, Tryd.results28, go_sem, hcc]) rfl ⟨by rw [HR1.out, tokV_bad], ?_⟩
        exact (((HBB.out.setCell (Nat.le_refl _) _).setCell (Nat.le_refl _) _).setCell (Nat.le_refl _) _).setCell (Nat.le_refl _) _
    · rw [if_neg hb] at hR1
      have HR1 := Lib.hid hR1
      have HB := Lib.hid (Nat.lt_of_not_le hb)
      clear hR1 hb
      by_cases hlt : 2 + m < s.size
      · go_enter Tryd.func28, Tryd.ntmps28
        go_wp2_with fail
        refine (hd_is m _ _ hs' hn).mono ?_
        rintro e w' ⟨rfl, rfl⟩
        go_wp2_with (first | (go_at_call 34; refine (wb_is false _ _ (HW.out hlt)).mono ?_; rintro e w' ⟨rfl, rfl⟩) | (go_at_call 45; refine (parse_ok 16 (by omega) _ HNE.out HSZ.out HDD.out _ HB.out).mono ?_; rintro e w' ⟨rfl, hB⟩; have HBB := Lib.hid (below_trans2 hB); obtain ⟨hcc, hff⟩ := bcell hB; have hz := size_lt hB; clear hB))
        refine bodyPost_ret (v := .tuple #[.agg #[.int .i64 3, .int .i64 0, .string (s.extract 0 (2 + m)), .int .i64 (valN 16 (s.extract 2 (2 + m)).data.toList : Nat)], .int .i64 0]) (by simp [results, Tryd.results28, go_sem, hcc]) rfl ⟨by rw [HR1.out, tokV], ?_⟩
        exact (((HBB.out.setCell (Nat.le_refl _) _).setCell (Nat.le_refl _) _).setCell (Nat.le_refl _) _).setCell (Nat.le_refl _) _
      · go_enter Tryd.func28, Tryd.ntmps28
        go_wp2_with fail
        refine (hd_is m _ _ hs' hn).mono ?_
        rintro e w' ⟨rfl, rfl⟩
        go_wp2_with (go_at_call 45; refine (parse_ok 16 (by omega) _ HNE.out HSZ.out HDD.out _ HB.out).mono ?_; rintro e w' ⟨rfl, hB⟩; have HBB := Lib.hid (below_trans2 hB); obtain ⟨hcc, hff⟩ := bcell hB; have hz := size_lt hB; clear hB)
        refine bodyPost_ret (v := .tuple #[.agg #[.int .i64 3, .int .i64 0, .string (s.extract 0 (2 + m)), .int .i64 (valN 16 (s.extract 2 (2 + m)).data.toList : Nat)], .int .i64 0]) (by simp [results, Tryd.results28, go_sem, hcc]) rfl ⟨by rw [HR1.out, tokV], ?_⟩
        exact (((HBB.out.setCell (Nat.le_refl _) _).setCell (Nat.le_refl _) _).setCell (Nat.le_refl _) _).setCell (Nat.le_refl _) _
end Go.Proofs.YthbhlmkgbinegaaDoor
