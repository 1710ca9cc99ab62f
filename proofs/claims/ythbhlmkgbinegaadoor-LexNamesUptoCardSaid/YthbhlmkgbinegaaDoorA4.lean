/- hexDigits, Name, word. -/
import Derived.Test.YthbhlmkgbinegaaDoorP1
namespace Go.Proofs.YthbhlmkgbinegaaDoor
open Go.RowKit
theorem hp_is (b : Bool) (s p : ByteArray) (w : World) (h : Lib.hasPrefix s.data.toList p.data.toList = b) :
    Calls Tryd.prog 23 #[.string s, .string p] w fun e w' => e = .returned (.bool b) ∧ w = w' :=
  (Tryd.strings_HasPrefix s p w).mono fun _ _ ⟨he, hw⟩ => ⟨by rw [he, h], hw.symm⟩
theorem hp_len {l p : List UInt8} (h : Lib.hasPrefix l p = true) : p.length ≤ l.length := by
  unfold Lib.hasPrefix at h
  exact (List.isPrefixOf_iff_prefix.1 h).length_le
theorem ext_drop (s : ByteArray) (a : Nat) : (s.extract a s.size).data.toList = s.data.toList.drop a := Lib.extract_to_end s a
theorem ext_take (s : ByteArray) (n : Nat) : (s.extract 0 n).data.toList = s.data.toList.take n := by
  simp
theorem ext_size (s : ByteArray) (a : Nat) : (s.extract a s.size).size = s.size - a := by simp
set_option maxHeartbeats 400000 in
theorem hexDigits_any (s : ByteArray) (w : World) (hs : s.size ≤ maxLen) :
    Calls Tryd.prog 44 #[.string s] w fun e w' => e = .returned (.int .i64 (hexD s.data.toList : Nat)) ∧ w = w' := by
  unfold maxLen at hs
  cases hp : Lib.hasPrefix s.data.toList [48, 120] with
  | false =>
    have hp' := Lib.hid hp
    clear hp
    go_enter Tryd.func44, Tryd.ntmps44
    go_wp2_with fail
    refine (hp_is false _ _ _ hp'.out).mono ?_
    rintro e w' ⟨rfl, rfl⟩
    go_wp2_with fail
    go_ret
    exact ⟨ret_int (by simp [hexD, hp'.out]), rfl⟩
  | true =>
    have hl : 2 ≤ s.size := by have := hp_len hp; simpa using this
    have hp' := Lib.hid hp
    clear hp
    go_enter Tryd.func44, Tryd.ntmps44
    go_wp2_with fail
    refine (hp_is true _ _ _ hp'.out).mono ?_
    rintro e w' ⟨rfl, rfl⟩
    go_wp2_with fail
    refine (prefix_hx _ _ (by rw [ext_size]; unfold maxLen; omega)).mono ?_
    rintro e w' ⟨rfl, rfl⟩
    rw [ext_drop]
    go_wp2_with fail
    all_goals go_ret
    all_goals exact ⟨ret_int (by simp [hexD, hp'.out]; try omega), rfl⟩
theorem size_zero {s : ByteArray} (h : s.size = 0) : s.data.toList = [] := by
  apply List.eq_nil_of_length_eq_zero; simpa using h
theorem headD_bytes (s : ByteArray) (h : 0 < s.size) : s.data.toList.headD 0 = s[0] := by
  rw [List.headD_eq_head?_getD, List.head?_eq_getElem?, List.getElem?_eq_getElem (by simpa using h)]; rfl
theorem isName_len {l : List UInt8} (h : 24 < l.length) : isName l = false := by
  have : decide (l.length ≤ 24) = false := by simp; omega
  simp [isName, this]
theorem isName_dig {l : List UInt8} (h : isDig ((l.headD 0).toNat : Nat) = true) : isName l = false := by
  simp only [isName, h]; simp
theorem isName_pfx {l : List UInt8} (h : pfx isWb l ≠ l.length) : isName l = false := by
  simp [isName, h]
theorem isName_kw {l : List UInt8} (h : isKw l = true) : isName l = false := by
  simp [isName, h]
theorem isName_yes {l : List UInt8} (h0 : 0 < l.length) (h1 : l.length ≤ 24) (h2 : isDig ((l.headD 0).toNat : Nat) = false) (h3 : pfx isWb l = l.length) (h4 : isKw l = false) : isName l = true := by
  have : l ≠ [] := by intro e; subst e; simp at h0
  simp only [isName, h2, h3, h4]; simp [this, h1]
set_option maxHeartbeats 800000 in
theorem name_any (s : ByteArray) (w : World) (hs : s.size ≤ maxLen) (hv : Vars w) :
    Calls Tryd.prog 15 #[.string s] w fun e w' => e = .returned (.bool (isName s.data.toList)) ∧ w = w' := by
  have hs' := hs
  unfold maxLen at hs
  have HV := Lib.hid hv
  clear hv
  by_cases h0 : s.size = 0
  · have he : s.toList.isEmpty = true := by rw [ByteArray.toList_eq, size_zero h0]; rfl
    have hn : isName s.data.toList = false := by rw [size_zero h0]; rfl
    have HN := Lib.hid hn
    clear hn h0
    go_enter Tryd.func15, Tryd.ntmps15
    go_wp2_with fail
    go_ret
    exact ⟨ret_bool HN.out.symm, rfl⟩
  have he : s.toList.isEmpty = false := by
    rw [ByteArray.toList_eq, Bool.eq_false_iff]; intro e; rw [List.isEmpty_iff] at e
    have : s.data.toList.length = s.size := by simp
    rw [e] at this; simp at this; omega
  by_cases h1 : 24 < s.size
  · have hn : isName s.data.toList = false := isName_len (by simpa using h1)
    have HN := Lib.hid hn
    clear hn h0
    go_enter Tryd.func15, Tryd.ntmps15
    go_wp2_with fail
    go_ret
    exact ⟨ret_bool HN.out.symm, rfl⟩
  have hhead := headD_bytes s (by omega)
  cases h2 : isDig (s[0].toNat : Nat) with
  | true =>
    have hn : isName s.data.toList = false := isName_dig (by rw [hhead]; exact h2)
    have HN := Lib.hid hn
    clear hn hhead
    go_enter Tryd.func15, Tryd.ntmps15
    go_wp2_with (go_at_call 27; refine (isDigit_any _ _).mono ?_; rintro e w' ⟨rfl, rfl⟩)
    go_ret
    exact ⟨ret_bool HN.out.symm, rfl⟩
  | false =>
    have h2h : isDig ((s.data.toList.headD 0).toNat : Nat) = false := by rw [hhead]; exact h2
    have H2 := Lib.hid h2h
    clear hhead h2h
    by_cases h3 : pfx isWb s.data.toList = s.size
    · have H3 := Lib.hid h3
      clear h3
      cases h4 : isKw s.data.toList with
      | true =>
        have H4 := Lib.hid h4
        have hn : isName s.data.toList = false := isName_kw h4
        have HN := Lib.hid hn
        clear hn
        go_enter Tryd.func15, Tryd.ntmps15
        go_wp2_with (go_at_call 27; refine (isDigit_any _ _).mono ?_; rintro e w' ⟨rfl, rfl⟩)
        refine (prefix_wb _ _ hs').mono ?_
        rintro e w' ⟨rfl, rfl⟩
        rw [H3.out]
        go_wp2_with (go_at_call 17; refine (word_any _ _ HV.out).mono ?_; rintro e w' ⟨rfl, rfl⟩)
        go_ret
        exact ⟨ret_bool HN.out.symm, rfl⟩
      | false =>
        have hn : isName s.data.toList = true := isName_yes (by simp; omega) (by simp; omega) H2.out (by rw [H3.out]; simp) h4
        have HN := Lib.hid hn
        clear hn
        go_enter Tryd.func15, Tryd.ntmps15
        go_wp2_with (go_at_call 27; refine (isDigit_any _ _).mono ?_; rintro e w' ⟨rfl, rfl⟩)
        refine (prefix_wb _ _ hs').mono ?_
        rintro e w' ⟨rfl, rfl⟩
        rw [H3.out]
        go_wp2_with (go_at_call 17; refine (word_any _ _ HV.out).mono ?_; rintro e w' ⟨rfl, rfl⟩)
        go_ret
        exact ⟨ret_bool HN.out.symm, rfl⟩
    · have hn : isName s.data.toList = false := isName_pfx (by simpa using h3)
      have HN := Lib.hid hn
      have hb : ((pfx isWb s.data.toList : Int) == s.size) = false := by simp; omega
      clear hn h3
      go_enter Tryd.func15, Tryd.ntmps15
      go_wp2_with (go_at_call 27; refine (isDigit_any _ _).mono ?_; rintro e w' ⟨rfl, rfl⟩)
      refine (prefix_wb _ _ hs').mono ?_
      rintro e w' ⟨rfl, rfl⟩
      go_wp2_with (go_at_call 17; refine (word_any _ _ HV.out).mono ?_; rintro e w' ⟨rfl, rfl⟩)
      go_ret
      exact ⟨ret_bool HN.out.symm, rfl⟩
end Go.Proofs.YthbhlmkgbinegaaDoor
