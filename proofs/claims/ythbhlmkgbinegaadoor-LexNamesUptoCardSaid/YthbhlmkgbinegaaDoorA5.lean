/- word, character, sign, comment. -/
import Derived.Test.YthbhlmkgbinegaaDoorA4
import Derived.Laws.ResultCell
namespace Go.Proofs.YthbhlmkgbinegaaDoor
open Go.RowKit
/-- the token of kind k, whose text is the first n bytes of s. -/
def tokV (s : ByteArray) (t : Tk) : Value := .tuple #[.agg #[.int .i64 t.kind, .int .i64 0, .string (s.extract 0 t.len), .int .i64 t.val], .int .i64 t.err]
theorem tokV_bad (s : ByteArray) (e : Int) : tokV s (Tk.bad e) = .tuple #[.agg #[.int .i64 0, .int .i64 0, .string ⟨#[]⟩, .int .i64 0], .int .i64 e] := by
  simp [tokV, Tk.bad]; rfl
theorem pw_is (n : Nat) (s : ByteArray) (w : World) (hs : s.size ≤ maxLen) (h : pfx isWb s.data.toList = n) :
    Calls Tryd.prog 33 #[.string s, .func (.func 34) #[] #[]] w fun e w' => e = .returned (.int .i64 n) ∧ w = w' := by
  subst h; exact prefix_wb s w hs
theorem kw_is (b : Bool) (s : ByteArray) (w : World) (hv : Vars w) (h : isKw s.data.toList = b) :
    Calls Tryd.prog 17 #[.string s] w fun e w' => e = .returned (.bool b) ∧ w = w' := by
  subst h; exact word_any s w hv
theorem Vars.alloc {w : World} (h : Vars w) (o : Obj) : Vars (w.alloc o) := h.below ((Below.refl _ _).alloc (Nat.le_refl _) o) h.size
theorem below_new {w : World} (o : Obj) : Below w.heap.size w (w.alloc o) := (Below.refl _ _).alloc (Nat.le_refl _) o
set_option maxHeartbeats 800000 in
theorem wordR_any (s : ByteArray) (w : World) (hs : s.size ≤ maxLen) (hv : Vars w) :
    Calls Tryd.prog 26 #[.string s] w fun e w' => e = .returned (tokV s (wordR s.data.toList)) ∧ Below w.heap.size w w' := by
  have hs' := hs
  unfold maxLen at hs
  have hle := pfx_le isWb s.data.toList
  rw [show s.data.toList.length = s.size by simp] at hle
  obtain ⟨n, hn⟩ : ∃ n, pfx isWb s.data.toList = n := ⟨_, rfl⟩
  have hR : wordR s.data.toList = if 24 < n then Tk.bad 5 else if isKw (s.data.toList.take n) = true then ⟨2, n, 0, 0⟩ else ⟨1, n, 0, 0⟩ := by simp only [wordR, hn]
  rw [hn] at hle
  have HN := Lib.hid hn
  have HV := Lib.hid hv
  clear hn hv
  by_cases h1 : 24 < n
  · rw [if_pos h1] at hR
    have HR := Lib.hid hR
    clear hR
    go_enter Tryd.func26, Tryd.ntmps26
    go_wp2_with fail
    refine (pw_is n _ _ hs' HN.out).mono ?_
    rintro e w' ⟨rfl, rfl⟩
    go_wp2_with fail
    exact bodyPost_ret (v := .tuple #[.agg #[.int .i64 0, .int .i64 0, .string ⟨#[]⟩, .int .i64 0], .int .i64 5]) (by simp [results, Tryd.results26, go_sem]) rfl ⟨by rw [HR.out, tokV_bad], below_new _⟩
  · rw [if_neg h1] at hR
    have hd : (s.extract 0 n).data.toList = s.data.toList.take n := ext_take _ _
    rw [← hd] at hR
    have hsz : (s.extract 0 n).size = n := by simp; omega
    cases h2 : isKw (s.extract 0 n).data.toList with
    | true =>
      rw [if_pos h2] at hR
      have HR := Lib.hid hR
      have H2 := Lib.hid h2
      clear hR hd h2
      go_enter Tryd.func26, Tryd.ntmps26
      go_wp2_with fail
      refine (pw_is n _ _ hs' HN.out).mono ?_
      rintro e w' ⟨rfl, rfl⟩
      go_wp2_with fail
      refine (kw_is true _ _ (HV.out.alloc _) H2.out).mono ?_
      rintro e w' ⟨rfl, rfl⟩
      go_wp2_with fail
      refine bodyPost_ret (v := .tuple #[.agg #[.int .i64 2, .int .i64 0, .string (s.extract 0 n), .int .i64 0], .int .i64 0]) (by simp [results, Tryd.results26, go_sem]) rfl ⟨by rw [HR.out, tokV], below_new _⟩
    | false =>
      rw [if_neg (by rw [h2]; simp)] at hR
      have HR := Lib.hid hR
      have H2 := Lib.hid h2
      clear hR hd h2
      go_enter Tryd.func26, Tryd.ntmps26
      go_wp2_with fail
      refine (pw_is n _ _ hs' HN.out).mono ?_
      rintro e w' ⟨rfl, rfl⟩
      go_wp2_with fail
      refine (kw_is false _ _ (HV.out.alloc _) H2.out).mono ?_
      rintro e w' ⟨rfl, rfl⟩
      go_wp2_with fail
      refine bodyPost_ret (v := .tuple #[.agg #[.int .i64 1, .int .i64 0, .string (s.extract 0 n), .int .i64 0], .int .i64 0]) (by simp [results, Tryd.results26, go_sem]) rfl ⟨by rw [HR.out, tokV], below_new _⟩
end Go.Proofs.YthbhlmkgbinegaaDoor
