/- comment. -/
import Derived.Test.YthbhlmkgbinegaaDoorA6
namespace Go.Proofs.YthbhlmkgbinegaaDoor
open Go.RowKit
def commentR (l : List UInt8) : Int :=
  if l.getD 1 0 = 42 then (if Lib.index (l.drop 2) [42, 47] < 0 then 0 else 2 + Lib.index (l.drop 2) [42, 47] + 2)
  else (if Lib.index (l.drop 2) [10] < 0 then l.length else 2 + Lib.index (l.drop 2) [10] + 1)
theorem index_le (l p : List UInt8) : -1 ≤ Lib.index l p ∧ Lib.index l p ≤ l.length := by
  induction l with
  | nil => unfold Lib.index; split <;> simp
  | cons b l ih =>
    unfold Lib.index
    split
    · simp; omega
    · split
      · simp; omega
      · rename_i h; simp at h ⊢; omega
theorem ix_is (n : Int) (s p : ByteArray) (w : World) (hs : s.size < 4294967281) (hv : Vars w) (h : Lib.index s.data.toList p.data.toList = n) :
    Calls Tryd.prog 43 #[.string s, .string p] w fun e w' => e = .returned (.int .i64 n) ∧ w = w' := by
  obtain ⟨m, hm⟩ := hv.ml
  subst h
  exact (Tryd.strings_Index s p m w hs hm).mono fun _ _ ⟨he, hw⟩ => ⟨he, hw.symm⟩
set_option maxHeartbeats 800000 in
theorem comment_any (s : ByteArray) (w : World) (hs : s.size < 4294967281) (h2 : 2 ≤ s.size) (hv : Vars w) :
    Calls Tryd.prog 24 #[.string s] w fun e w' => e = .returned (.int .i64 (commentR s.data.toList)) ∧ w = w' := by
  have hg : s.data.toList.getD 1 0 = s[1] := by
    rw [List.getD_eq_getElem?_getD, List.getElem?_eq_getElem (by simp; omega)]; rfl
  have HV := Lib.hid hv
  clear hv
  have hsz : (s.extract 2 s.size).size = s.size - 2 := ext_size s 2
  have hdr := ext_drop s 2
  by_cases h1 : s[1] = 42
  · have c1 : (s[1].toNat : Int) = 42 := by rw [h1]; rfl
    obtain ⟨i, hi⟩ : ∃ i, Lib.index (s.data.toList.drop 2) [42, 47] = i := ⟨_, rfl⟩
    have hb := index_le (s.data.toList.drop 2) [42, 47]
    have hR : commentR s.data.toList = if i < 0 then 0 else 2 + i + 2 := by simp only [commentR, hg, h1, hi, if_true]
    rw [hi, List.length_drop, show s.data.toList.length = s.size by simp] at hb
    rw [← hdr] at hi
    have HR := Lib.hid hR
    have HI := Lib.hid hi
    clear hR hi h1 hg hdr hsz
    by_cases hneg : i < 0
    · go_enter Tryd.func24, Tryd.ntmps24
      go_wp2_with fail
      refine (ix_is i _ _ _ (by rw [ext_size]; omega) HV.out HI.out).mono ?_
      rintro e w' ⟨rfl, rfl⟩
      go_wp2_with fail
      go_ret
      exact ⟨ret_int (by rw [HR.out, if_pos hneg]), rfl⟩
    · go_enter Tryd.func24, Tryd.ntmps24
      go_wp2_with fail
      refine (ix_is i _ _ _ (by rw [ext_size]; omega) HV.out HI.out).mono ?_
      rintro e w' ⟨rfl, rfl⟩
      go_wp2_with fail
      go_ret
      exact ⟨ret_int (by rw [HR.out, if_neg (by omega)]), rfl⟩
  · have c1 : ¬ (s[1].toNat : Int) = 42 := by
      intro e; exact h1 (UInt8.toNat_inj.1 (by have : (42 : UInt8).toNat = 42 := rfl; omega))
    obtain ⟨i, hi⟩ : ∃ i, Lib.index (s.data.toList.drop 2) [10] = i := ⟨_, rfl⟩
    have hb := index_le (s.data.toList.drop 2) [10]
    have hR : commentR s.data.toList = if i < 0 then (s.data.toList.length : Int) else 2 + i + 1 := by simp only [commentR, hg, h1, hi, if_false]
    rw [hi, List.length_drop, show s.data.toList.length = s.size by simp] at hb
    rw [show s.data.toList.length = s.size by simp] at hR
    rw [← hdr] at hi
    have HR := Lib.hid hR
    have HI := Lib.hid hi
    clear hR hi h1 hg hdr hsz
    by_cases hneg : i < 0
    · go_enter Tryd.func24, Tryd.ntmps24
      go_wp2_with fail
      refine (ix_is i _ _ _ (by rw [ext_size]; omega) HV.out HI.out).mono ?_
      rintro e w' ⟨rfl, rfl⟩
      go_wp2_with fail
      go_ret
      exact ⟨ret_int (by rw [HR.out, if_pos hneg]), rfl⟩
    · go_enter Tryd.func24, Tryd.ntmps24
      go_wp2_with fail
      refine (ix_is i _ _ _ (by rw [ext_size]; omega) HV.out HI.out).mono ?_
      rintro e w' ⟨rfl, rfl⟩
      go_wp2_with fail
      go_ret
      exact ⟨ret_int (by rw [HR.out, if_neg (by omega)]), rfl⟩
end Go.Proofs.YthbhlmkgbinegaaDoor
