/- lex.number. -/
import Derived.Test.YthbhlmkgbinegaaDoorU5
namespace Go.Proofs.YthbhlmkgbinegaaDoor
open Go.RowKit
theorem pd_is (n : Nat) (s : ByteArray) (w : World) (hs : s.size ≤ maxLen) (h : pfx isDig s.data.toList = n) :
    Calls Tryd.prog 33 #[.string s, .func (.func 27) #[] #[]] w fun e w' => e = .returned (.int .i64 n) ∧ w = w' := by
  subst h; exact prefix_dig s w hs
theorem hd_is (n : Nat) (s : ByteArray) (w : World) (hs : s.size ≤ maxLen) (h : hexD s.data.toList = n) :
    Calls Tryd.prog 44 #[.string s] w fun e w' => e = .returned (.int .i64 n) ∧ w = w' := by
  subst h; exact hexDigits_any s w hs
theorem wb_is (b : Bool) (c : Int) (w : World) (h : isWb c = b) :
    Calls Tryd.prog 34 #[.int .u8 c] w fun e w' => e = .returned (.bool b) ∧ w = w' := by
  subst h; exact isWordByte_any c w
theorem ext_mid (s : ByteArray) (a b : Nat) : (s.extract a b).data.toList = (s.data.toList.take b).drop a := by
  simp [List.extract, List.drop_take]
theorem hexD_pos {l : List UInt8} (h : 0 < hexD l) : 2 ≤ l.length ∧ hexD l ≤ pfx isHx (l.drop 2) ∧ hexD l ≤ 16 := by
  unfold hexD at h ⊢
  split
  · rename_i h1
    have := hp_len h1
    exact ⟨by simpa using this, by omega, by omega⟩
  · rename_i h1; rw [if_neg h1] at h; omega
theorem take_all (p : Int → Bool) (l : List UInt8) (n : Nat) (hn : n ≤ pfx p l) : ∀ c ∈ l.take n, p (c.toNat : Nat) = true := by
  intro c hc
  obtain ⟨i, hi, rfl⟩ := List.getElem_of_mem hc
  have hl : (l.take n).length ≤ n := List.length_take_le _ _
  rw [List.getElem_take]
  exact pfx_all p l i (by omega)
theorem getD_bytes (s : ByteArray) (n : Nat) (h : n < s.size) : s.data.toList.getD n 0 = s[n] := by
  rw [List.getD_eq_getElem?_getD, List.getElem?_eq_getElem (by simpa using h)]; rfl
theorem nR_size {s : ByteArray} {n : Nat} (h : s.size ≤ n) : numberR s.data.toList = if n < s.data.toList.length ∧ isWb ((s.data.toList.getD n 0).toNat : Nat) = true then Tk.bad 2 else numberR s.data.toList := by
  rw [if_neg]; intro ⟨h1, _⟩; simp at h1; omega
theorem bcell {W w1 : World} (hb : Below W.heap.size W w1) : (∀ b o, b < W.heap.size → w1.cell? ⟨b, o, none⟩ = W.cell? ⟨b, o, none⟩) ∧ (∀ b o, b < W.heap.size → w1.frozen? ⟨b, o, none⟩ = W.frozen? ⟨b, o, none⟩) :=
  ⟨fun b o h => hb.cell (p := ⟨b, o, none⟩) h, fun b o h => hb.frozen (p := ⟨b, o, none⟩) h⟩
theorem size_lt {w : World} {o : Obj} {w' : World} (h : Below (w.alloc o).heap.size (w.alloc o) w') : w.heap.size < w'.heap.size := by
  have := h.size
  simp at this
  omega
theorem below_trans2 {w : World} {o : Obj} {w' : World} (h : Below (w.alloc o).heap.size (w.alloc o) w') : Below w.heap.size w w' :=
  (below_new o).trans (h.mono (by simp))
set_option maxHeartbeats 1000000 in
theorem number_dec (s : ByteArray) (w : World) (hs : s.size ≤ 20000) (hv : Vars w) (n : Nat) (hn : Hid (pfx isDig s.data.toList = n)) (h0 : 0 < n) (hle : n ≤ s.size) (hc : ¬ (s[0].toNat : Int) = 48)
    (HD : Hid (∀ c ∈ ((s.data.toList.take (n)).drop 0), okDig 10 c)) (hR : Hid (numberR s.data.toList = if n < s.data.toList.length ∧ isWb ((s.data.toList.getD (n) 0).toNat : Nat) = true then Tk.bad 2
  else if 9223372036854775808 ≤ valN 10 ((s.data.toList.take (n)).drop 0) then Tk.bad 5
  else ⟨3, n, valN 10 ((s.data.toList.take (n)).drop 0), 0⟩)) :
    Calls Tryd.prog 28 #[.string s] w fun e w' => e = .returned (tokV s (numberR s.data.toList)) ∧ Below w.heap.size w w' := by
  have hs' : s.size ≤ maxLen := by unfold maxLen; omega
  have hlen : s.data.toList.length = s.size := by simp
  have hd : ∀ c ∈ (s.extract 0 (n)).data.toList, okDig 10 c := by
    rw [ext_mid]; exact HD.out
  have hne : (s.extract 0 (n)).size ≠ 0 := by rw [ByteArray.size_extract]; omega
  have hsz : (s.extract 0 (n)).size ≤ 20000 := by rw [ByteArray.size_extract]; omega
  have HDD := Lib.hid hd
  have HNE := Lib.hid hne
  have HSZ := Lib.hid hsz
  clear hd hne hsz

  have HV := Lib.hid hv
  clear hv
  rw [hlen] at hR
  have Hlen := Lib.hid hlen
  clear hlen
  by_cases hw : n < s.size ∧ isWb (s[n]?.getD 0).toNat = true
  · obtain ⟨hw1, hw2⟩ := hw
    have hw3 : isWb ((s[n]'(by omega)).toNat : Nat) = true := by
      rw [getElem?_pos s (n) (by omega)] at hw2; exact hw2
    have hR2 : numberR s.data.toList = Tk.bad 2 := by
      rw [hR.out, if_pos ⟨hw1, by rw [getD_bytes s _ (by omega)]; exact hw3⟩]
    have HR2 := Lib.hid hR2
    have HW := Lib.hid hw3
    clear hw2 hw3 hR2 hR
    go_enter Tryd.func28, Tryd.ntmps28
    go_wp2_with fail
    refine (pd_is n _ _ hs' hn).mono ?_
    rintro e w' ⟨rfl, rfl⟩
    go_wp2_with (go_at_call 34; refine (wb_is true _ _ HW.out).mono ?_; rintro e w' ⟨rfl, rfl⟩)
    exact bodyPost_ret (v := .tuple #[.agg #[.int .i64 0, .int .i64 0, .string ⟨#[]⟩, .int .i64 0], .int .i64 2]) (by simp [results, Tryd.results28, go_sem]) rfl ⟨by rw [HR2.out, tokV_bad], below_new _⟩
  · have hR1 : numberR s.data.toList = if 9223372036854775808 ≤ valN 10 ((s.data.toList.take (n)).drop 0) then Tk.bad 5
        else ⟨3, n, valN 10 ((s.data.toList.take (n)).drop 0), 0⟩ := by
      rw [hR.out, if_neg]
      intro ⟨h1, h2⟩
      exact hw ⟨h1, by rw [getElem?_pos s (n) (by omega)]; rw [getD_bytes s _ (by omega)] at h2; exact h2⟩
    have hW : ∀ (h : n < s.size), isWb ((s[n]'(by omega)).toNat : Nat) = false := by
      intro h
      rw [Bool.eq_false_iff]
      intro h2
      exact hw ⟨h, by rw [getElem?_pos s (n) (by omega)]; exact h2⟩
    have HW := Lib.hid hW
    rw [← ext_mid] at hR1
    clear hw hW hR
    by_cases hb : 9223372036854775808 ≤ valN 10 (s.extract 0 (n)).data.toList
    · rw [if_pos hb] at hR1
      have HR1 := Lib.hid hR1
      have HB := Lib.hid hb
      clear hR1 hb
      by_cases hlt : n < s.size
      · go_enter Tryd.func28, Tryd.ntmps28
        go_wp2_with fail
        refine (pd_is n _ _ hs' hn).mono ?_
        rintro e w' ⟨rfl, rfl⟩
        go_wp2_with (first | (go_at_call 34; refine (wb_is false _ _ (HW.out hlt)).mono ?_; rintro e w' ⟨rfl, rfl⟩) | (go_at_call 45; refine (parse_err 10 (by omega) _ HNE.out HSZ.out HDD.out _ (HV.out.alloc _) HB.out).mono ?_; rintro e w' ⟨N, rfl, hB⟩; have HBB := Lib.hid (below_trans2 hB); obtain ⟨hcc, hff⟩ := bcell hB; have hz := size_lt hB; clear hB))
        refine bodyPost_ret (v := .tuple #[.agg #[.int .i64 0, .int .i64 0, .string ⟨#[]⟩, .int .i64 0], .int .i64 5]) (by simp [results, Tryd.results28, go_sem, hcc]) rfl ⟨by rw [HR1.out, tokV_bad], ?_⟩
        exact (((HBB.out.setCell (Nat.le_refl _) _).setCell (Nat.le_refl _) _).setCell (Nat.le_refl _) _).setCell (Nat.le_refl _) _
      · go_enter Tryd.func28, Tryd.ntmps28
        go_wp2_with fail
        refine (pd_is n _ _ hs' hn).mono ?_
        rintro e w' ⟨rfl, rfl⟩
        go_wp2_with (go_at_call 45; refine (parse_err 10 (by omega) _ HNE.out HSZ.out HDD.out _ (HV.out.alloc _) HB.out).mono ?_; rintro e w' ⟨N, rfl, hB⟩; have HBB := Lib.hid (below_trans2 hB); obtain ⟨hcc, hff⟩ := bcell hB; have hz := size_lt hB; clear hB)
        refine bodyPost_ret (v := .tuple #[.agg #[.int .i64 0, .int .i64 0, .string ⟨#[]⟩, .int .i64 0], .int .i64 5]) (by simp [results, Tryd.results28, go_sem, hcc]) rfl ⟨by rw [HR1.out, tokV_bad], ?_⟩
        exact (((HBB.out.setCell (Nat.le_refl _) _).setCell (Nat.le_refl _) _).setCell (Nat.le_refl _) _).setCell (Nat.le_refl _) _
    · rw [if_neg hb] at hR1
      have HR1 := Lib.hid hR1
      have HB := Lib.hid (Nat.lt_of_not_le hb)
      clear hR1 hb
      by_cases hlt : n < s.size
      · go_enter Tryd.func28, Tryd.ntmps28
        go_wp2_with fail
        refine (pd_is n _ _ hs' hn).mono ?_
        rintro e w' ⟨rfl, rfl⟩
        go_wp2_with (first | (go_at_call 34; refine (wb_is false _ _ (HW.out hlt)).mono ?_; rintro e w' ⟨rfl, rfl⟩) | (go_at_call 45; refine (parse_ok 10 (by omega) _ HNE.out HSZ.out HDD.out _ HB.out).mono ?_; rintro e w' ⟨rfl, hB⟩; have HBB := Lib.hid (below_trans2 hB); obtain ⟨hcc, hff⟩ := bcell hB; have hz := size_lt hB; clear hB))
        refine bodyPost_ret (v := .tuple #[.agg #[.int .i64 3, .int .i64 0, .string (s.extract 0 (n)), .int .i64 (valN 10 (s.extract 0 (n)).data.toList : Nat)], .int .i64 0]) (by simp [results, Tryd.results28, go_sem, hcc]) rfl ⟨by rw [HR1.out, tokV], ?_⟩
        exact (((HBB.out.setCell (Nat.le_refl _) _).setCell (Nat.le_refl _) _).setCell (Nat.le_refl _) _).setCell (Nat.le_refl _) _
      · go_enter Tryd.func28, Tryd.ntmps28
        go_wp2_with fail
        refine (pd_is n _ _ hs' hn).mono ?_
        rintro e w' ⟨rfl, rfl⟩
        go_wp2_with (go_at_call 45; refine (parse_ok 10 (by omega) _ HNE.out HSZ.out HDD.out _ HB.out).mono ?_; rintro e w' ⟨rfl, hB⟩; have HBB := Lib.hid (below_trans2 hB); obtain ⟨hcc, hff⟩ := bcell hB; have hz := size_lt hB; clear hB)
        refine bodyPost_ret (v := .tuple #[.agg #[.int .i64 3, .int .i64 0, .string (s.extract 0 (n)), .int .i64 (valN 10 (s.extract 0 (n)).data.toList : Nat)], .int .i64 0]) (by simp [results, Tryd.results28, go_sem, hcc]) rfl ⟨by rw [HR1.out, tokV], ?_⟩
        exact (((HBB.out.setCell (Nat.le_refl _) _).setCell (Nat.le_refl _) _).setCell (Nat.le_refl _) _).setCell (Nat.le_refl _) _
end Go.Proofs.YthbhlmkgbinegaaDoor
