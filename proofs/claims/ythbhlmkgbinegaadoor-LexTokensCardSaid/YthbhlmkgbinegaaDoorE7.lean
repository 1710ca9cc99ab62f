/- The document's answer: token. -/
import Derived.Test.YthbhlmkgbinegaaDoorE5
import Derived.Test.YthbhlmkgbinegaaDoorE6
namespace Go.Proofs.YthbhlmkgbinegaaDoor
open Go.RowKit
/-- what token answers: the token, or an error with any token. -/
def TokE (s : ByteArray) (t : Tk) (e : Ending) : Prop := (t.err = 0 ∧ e = .returned (tokV s t)) ∨ (t.err ≠ 0 ∧ ∃ (kd vl : Int) (tx : ByteArray), e = .returned (.tuple #[.agg #[.int .i64 kd, .int .i64 0, .string tx, .int .i64 vl], .int .i64 t.err]))
theorem tokE_bad (s : ByteArray) (er : Int) (h : er ≠ 0) : TokE s (Tk.bad er) (.returned (.tuple #[.agg #[.int .i64 0, .int .i64 0, .string ⟨#[]⟩, .int .i64 0], .int .i64 er])) := Or.inr ⟨h, 0, 0, _, rfl⟩
theorem tokE_ok (s : ByteArray) (kd : Int) (n : Nat) (vl : Int) : TokE s ⟨kd, n, vl, 0⟩ (.returned (.tuple #[.agg #[.int .i64 kd, .int .i64 0, .string (s.extract 0 n), .int .i64 vl], .int .i64 0])) := Or.inl ⟨rfl, rfl⟩
theorem rw_is (b : Bool) (s : ByteArray) (w : World) (h : isKw s.data.toList = b) :
    Calls Tryd.prog 18 #[.string s] w fun e w' => e = .returned (.bool b) ∧ Below w.heap.size w w' := by
  subst h; exact rWord s w
set_option maxHeartbeats 4000000 in
theorem rTokWord (s : ByteArray) (w : World) (hs : s.size ≤ 20000) (h0 : 0 < s.size) (hl : isLet (s[0].toNat : Nat) = true) :
    Calls Tryd.prog 32 #[.string s] w fun e w' => TokE s (wordR s.data.toList) e ∧ Below w.heap.size w w' := by
  have hle := pfx_le isWb s.data.toList
  rw [show s.data.toList.length = s.size by simp] at hle
  obtain ⟨n, hn⟩ : ∃ n, pfx isWb s.data.toList = n := ⟨_, rfl⟩
  have hR : wordR s.data.toList = if 24 < n then Tk.bad 5 else if isKw (s.data.toList.take n) = true then ⟨2, n, 0, 0⟩ else ⟨1, n, 0, 0⟩ := by simp only [wordR, hn]
  rw [hn] at hle
  have HN := Lib.hid hn
  have HL := Lib.hid hl
  clear hn hl
  by_cases h1 : 24 < n
  · rw [if_pos h1] at hR
    have HR := Lib.hid hR
    clear hR
    go_enter Tryd.func32, Tryd.ntmps32
    go_wp2_with (first | (go_at_call 36; refine (rl_is true _ _ HL.out).mono ?_; rintro e w' ⟨rfl, rfl⟩) | (go_at_call 35; refine (run_of n s _ hs HN.out).mono ?_; rintro e w' ⟨rfl, rfl⟩))
    exact bodyPost_ret (v := .tuple #[.agg #[.int .i64 0, .int .i64 0, .string ⟨#[]⟩, .int .i64 0], .int .i64 5]) (by simp [results, Tryd.results32, go_sem]) rfl ⟨by rw [HR.out]; exact tokE_bad _ _ (by omega), below_new _⟩
  · rw [if_neg h1] at hR
    have hd : (s.extract 0 n).data.toList = s.data.toList.take n := ext_take _ _
    rw [← hd] at hR
    obtain ⟨b, h2⟩ : ∃ b, isKw (s.extract 0 n).data.toList = b := ⟨_, rfl⟩
    have HR := Lib.hid (show wordR s.data.toList = ⟨if b = true then 2 else 1, n, 0, 0⟩ by rw [hR, h2]; cases b <;> rfl)
    have H2 := Lib.hid h2
    clear hR hd h2
    go_enter Tryd.func32, Tryd.ntmps32
    go_wp2_with (first | (go_at_call 36; refine (rl_is true _ _ HL.out).mono ?_; rintro e w' ⟨rfl, rfl⟩) | (go_at_call 35; refine (run_of n s _ hs HN.out).mono ?_; rintro e w' ⟨rfl, rfl⟩))
    refine (rw_is b _ _ H2.out).mono ?_
    rintro e w' ⟨rfl, hb⟩
    have HB := Lib.hid hb
    obtain ⟨hcc, hff⟩ := bcell hb
    have hz := size_lt hb
    clear hb
    cases b with
    | true =>
      go_wp2_with fail
      refine bodyPost_ret (v := .tuple #[.agg #[.int .i64 2, .int .i64 0, .string (s.extract 0 n), .int .i64 0], .int .i64 0]) ?_ rfl ⟨?_, ?_⟩
      · simp [results, Tryd.results32, go_sem, hcc]
      · rw [HR.out]; exact tokE_ok _ _ _ _
      · exact (W4_below w _ w.heap.size _ (Nat.le_refl _) 2 (s.extract 0 n) 0 (below_trans2 HB.out))
    | false =>
      go_wp2_with fail
      refine bodyPost_ret (v := .tuple #[.agg #[.int .i64 1, .int .i64 0, .string (s.extract 0 n), .int .i64 0], .int .i64 0]) ?_ rfl ⟨?_, ?_⟩
      · simp [results, Tryd.results32, go_sem, hcc]
      · rw [HR.out]; exact tokE_ok _ _ _ _
      · exact (W4_below w _ w.heap.size _ (Nat.le_refl _) 1 (s.extract 0 n) 0 (below_trans2 HB.out))
end Go.Proofs.YthbhlmkgbinegaaDoor
