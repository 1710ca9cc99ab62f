/- MemEnds, walked. -/
import Derived.Test.YtblhnjoophhliaaM14
import Derived.Test.YtblhnjoophhliaaM16
namespace Go.Proofs.Ytblhnjoophhliaa
open Go.RowKit
def enL (g h : Nat) : List (Nat × Blk) := [(g, endB (g, newB 3 16 true)).2, (h, newB 4 16 true)]
theorem en0 (g : Nat) : allocP [] g 3 16 true = ([(g, newB 3 16 true)], 1, 0) := rfl
theorem en1 (g h : Nat) : allocP [(g, newB 3 16 true)] h 4 16 true = ([(g, newB 3 16 true), (h, newB 4 16 true)], 2, 0) := rfl
theorem en2 (g h : Nat) : bytesP [(g, newB 3 16 true), (h, newB 4 16 true)] 1 = nums 0 16 := by kernel_rfl
theorem en3 (g h : Nat) : endP [(g, newB 3 16 true), (h, newB 4 16 true)] 1 = (enL g h, 0) := by kernel_rfl
theorem en4 (g h : Nat) (n : Int) : loadP (enL g h) ⟨n, 1, 0⟩ 8 = (val0, 9) := by kernel_rfl
theorem en5 (g h : Nat) (n v : Int) : storeP (enL g h) ⟨n, 1, 0⟩ 8 ⟨v, 0, 0⟩ = (enL g h, 9) := by kernel_rfl
theorem en6 (g h : Nat) : copyP (enL g h) ⟨0, 1, 0⟩ ⟨0, 2, 0⟩ 1 = (enL g h, 9) := by kernel_rfl
theorem en7 (g h : Nat) : copyP (enL g h) ⟨0, 2, 0⟩ ⟨0, 1, 0⟩ 1 = (enL g h, 9) := by kernel_rfl
theorem en8 (g h : Nat) : fillP (enL g h) ⟨0, 1, 0⟩ ⟨0, 0, 0⟩ ⟨1, 0, 0⟩ = (enL g h, 9) := by kernel_rfl
theorem en9 (g h : Nat) : blockP (enL g h) 1 = (3, 16, false) := by kernel_rfl
theorem enA (g h : Nat) : endP (enL g h) 1 = (enL g h, 9) := by kernel_rfl
theorem enB (g h : Nat) : bytesP (enL g h) 1 = nums 0 16 := by kernel_rfl
theorem enC (g h : Nat) (v : Int) : (storeP (enL g h) ⟨0, 2, 0⟩ 4 ⟨v, 0, 0⟩).2 = 0 := by kernel_rfl

set_option maxRecDepth 100000 in
set_option maxHeartbeats 8000000 in
theorem ends_walk (n c v : Int) (hc0 : -2147483648 ≤ c) (hc1 : c ≤ 2147483647) (w : World) :
    Calls Try.prog 8 #[.int .i64 n, .int .i32 c, .int .i64 v] w fun e w' => e = .returned (.bool true) ∧ w.grownBy w' none := by
  go_enter Try.func8, Try.ntmps8
  go_wp2_with fail
  refine (shown_any _).mono ?_
  rintro e w1 ⟨rfl, hg⟩
  have HG1 := Lib.hid hg
  clear hg
  go_wp2_with fail
  refine (New_any w1).mono ?_
  rintro e w2 ⟨rfl, rfl⟩
  have HS2 := Lib.hid (St.new w w1 HG1.out)
  go_wp2_with fail
  refine (alloc_st 3 16 true HS2.out).mono ?_
  rintro e w3 ⟨rfl, hs, hk⟩
  rw [en0] at hs ⊢
  dsimp only at hs ⊢
  have HS3 := Lib.hid hs
  clear hs hk HS2 HG1
  generalize (w1.alloc (.cells #[.slice none 0 0] 73)).heap.size = g at *
  generalize w1.heap.size = a at *
  go_wp2_with fail
  refine (alloc_st 4 16 true HS3.out).mono ?_
  rintro e w4 ⟨rfl, hs, hk⟩
  rw [en1] at hs ⊢
  dsimp only at hs ⊢
  have HS4 := Lib.hid hs
  clear hs hk HS3
  generalize w3.heap.size = h at *
  go_wp2_with fail
  refine (bytes_st 1 HS4.out).mono ?_
  rintro e w5 ⟨l, rfl, hl, hs, hg⟩
  rw [en2] at hl
  obtain ⟨q, rfl, hq, hb⟩ : ∃ q, l = .slice (some ⟨q, 0, none⟩) 16 16 ∧ w4.heap.size ≤ q ∧ BytesAt w5 q (nums 0 16) := by
    rcases hl with ⟨_, h0⟩ | ⟨q, h1, h2, h3⟩
    · cases h0
    · exact ⟨q, h1, h2, h3⟩
  have HS5 := Lib.hid hs
  have hqb : ∀ L : List (Nat × Blk), (∀ x ∈ L, x.1 = g ∨ x.1 = h) → ∀ x ∈ L, x.1 ≠ q := fun L hL x hx e => by
    obtain ⟨row, hm⟩ := HS4.out.mem
    have h1 := (hm.bytes (g, newB 3 16 true) (by simp)).1.lt
    have h2 := (hm.bytes (h, newB 4 16 true) (by simp)).1.lt
    rcases hL x hx with e1 | e1 <;> (dsimp only at h1 h2; omega)
  have HQ := Lib.hid hqb
  have HB5 := Lib.hid hb
  clear hl hs hg hb hqb hq HS4
  go_wp2_with fail
  refine (end_st 1 HS5.out).mono ?_
  rintro e w6 ⟨rfl, hs, hk⟩
  rw [en3] at hs ⊢
  dsimp only at hs ⊢
  have HB6 := Lib.hid (HB5.out.keep hk (HQ.out _ (by simp)))
  have HS6 := Lib.hid hs
  clear hs hk HS5 HB5
  have HQE := Lib.hid (show ∀ x ∈ enL g h, x.1 ≠ q from HQ.out _ (by intro x hx; simp [enL, endB] at hx; rcases hx with rfl | rfl <;> simp))
  clear HQ
  go_wp2_with fail
  refine (at_any n _).mono ?_
  rintro e w7 ⟨rfl, hg⟩
  have HS7 := Lib.hid (HS6.out.gr' hg)
  have HB7 := Lib.hid (HB6.out.gr hg (by simp))
  clear hg HS6 HB6
  go_wp2_with fail
  refine (show Calls Try.prog 17 #[.pointer (some ⟨a, 0, none⟩), .agg #[.int .i64 n, .int .i64 1, .int .i64 0], .int .i64 8] w7 _ from load_st ⟨n, 1, 0⟩ 8 HS7.out).mono ?_
  rintro e w8 ⟨rfl, hs, hg⟩
  rw [en4]
  have HS8 := Lib.hid (hs.gr' (gr_alloc (grownBy_refl w8 none) (.cells #[.int .i64 0, .int .i64 0, .int .i64 0] 29)))
  have HB8 := Lib.hid ((HB7.out.gr hg (by simp)).gr (gr_alloc (grownBy_refl w8 none) (.cells #[.int .i64 0, .int .i64 0, .int .i64 0] 29)) (by simp))
  clear hs hg HS7 HB7
  unfold valV valC val0
  go_wp2_with fail
  refine (at_any n _).mono ?_
  rintro e w9 ⟨rfl, hg⟩
  have HS9 := Lib.hid (HS8.out.gr' hg)
  have HB9 := Lib.hid (HB8.out.gr hg (by simp))
  clear hg HS8 HB8
  go_wp2_with fail
  refine (show Calls Try.prog 19 #[.pointer (some ⟨a, 0, none⟩), .agg #[.int .i64 n, .int .i64 1, .int .i64 0], .int .i64 8, .agg #[.int .i64 v, .int .i64 0, .int .i64 0]] w9 _ from store_st ⟨n, 1, 0⟩ ⟨v, 0, 0⟩ 8 HS9.out).mono ?_
  rintro e wa ⟨rfl, hs, hk⟩
  rw [en5] at hs ⊢
  have HSa := Lib.hid hs
  have HBa := Lib.hid (HB9.out.keep hk HQE.out)
  clear hs hk HS9 HB9
  go_wp2_with fail
  refine (at_any 0 _).mono ?_
  rintro e wb ⟨rfl, hg⟩
  have HSb := Lib.hid (HSa.out.gr' hg)
  have HBb := Lib.hid (HBa.out.gr hg (by simp))
  clear hg HSa HBa
  go_wp2_with fail
  refine (show Calls Try.prog 21 #[.pointer (some ⟨a, 0, none⟩), .agg #[.int .i64 0, .int .i64 1, .int .i64 0], .agg #[.int .i64 0, .int .i64 2, .int .i64 0], .int .i64 1] wb _ from copy_st ⟨0, 1, 0⟩ ⟨0, 2, 0⟩ 1 HSb.out).mono ?_
  rintro e wc ⟨rfl, hs, hk⟩
  rw [en6] at hs ⊢
  have HSc := Lib.hid hs
  have HBc := Lib.hid (HBb.out.keep hk HQE.out)
  clear hs hk HSb HBb
  go_wp2_with fail
  refine (at_any 0 _).mono ?_
  rintro e wd ⟨rfl, hg⟩
  have HSd := Lib.hid (HSc.out.gr' hg)
  have HBd := Lib.hid (HBc.out.gr hg (by simp))
  clear hg HSc HBc
  go_wp2_with fail
  refine (show Calls Try.prog 21 #[.pointer (some ⟨a, 0, none⟩), .agg #[.int .i64 0, .int .i64 2, .int .i64 0], .agg #[.int .i64 0, .int .i64 1, .int .i64 0], .int .i64 1] wd _ from copy_st ⟨0, 2, 0⟩ ⟨0, 1, 0⟩ 1 HSd.out).mono ?_
  rintro e we ⟨rfl, hs, hk⟩
  rw [en7] at hs ⊢
  have HSe := Lib.hid hs
  have HBe := Lib.hid (HBd.out.keep hk HQE.out)
  clear hs hk HSd HBd
  go_wp2_with fail
  refine (at_any 0 _).mono ?_
  rintro e wf ⟨rfl, hg⟩
  have HSf := Lib.hid (HSe.out.gr' hg)
  have HBf := Lib.hid (HBe.out.gr hg (by simp))
  clear hg HSe HBe
  go_wp2_with fail
  refine (show Calls Try.prog 23 #[.pointer (some ⟨a, 0, none⟩), .agg #[.int .i64 0, .int .i64 1, .int .i64 0], .agg #[.int .i64 0, .int .i64 0, .int .i64 0], .agg #[.int .i64 1, .int .i64 0, .int .i64 0]] wf _ from fill_st ⟨0, 1, 0⟩ ⟨0, 0, 0⟩ ⟨1, 0, 0⟩ HSf.out).mono ?_
  rintro e wg ⟨rfl, hs, hk⟩
  rw [en8] at hs ⊢
  have HSg := Lib.hid hs
  have HBg := Lib.hid (HBf.out.keep hk HQE.out)
  clear hs hk HSf HBf
  go_wp2_with fail
  refine (block_st 1 HSg.out).mono ?_
  rintro e wh ⟨rfl, hs, hg⟩
  rw [en9]
  have HSh := Lib.hid hs
  have HBh := Lib.hid (HBg.out.gr hg (by simp))
  clear hs hg HSg HBg
  go_wp2_with fail
  refine (end_st 1 HSh.out).mono ?_
  rintro e wi ⟨rfl, hs, hk⟩
  rw [enA] at hs ⊢
  have HSi := Lib.hid hs
  have HBi := Lib.hid (HBh.out.keep hk HQE.out)
  clear hs hk HSh HBh
  go_wp2_with fail
  refine (bytes_st 1 HSi.out).mono ?_
  rintro e wj ⟨l, rfl, hl, hs, hg⟩
  rw [enB] at hl
  obtain ⟨q', rfl, hq, hb⟩ : ∃ q, l = .slice (some ⟨q, 0, none⟩) 16 16 ∧ wi.heap.size ≤ q ∧ BytesAt wj q (nums 0 16) := by
    rcases hl with ⟨_, h0⟩ | ⟨q, h1, h2, h3⟩
    · cases h0
    · exact ⟨q, h1, h2, h3⟩
  have HSj := Lib.hid hs
  have HBj := Lib.hid (HBi.out.gr hg (by simp))
  have HCj := Lib.hid hb
  clear hl hs hg hb hq HSi HBi
  go_wp2_with fail
  refine (show Calls Try.prog 30 #[.slice (some ⟨q', 0, none⟩) 16 16, .slice (some ⟨q, 0, none⟩) 16 16] wj _ from Same_any (some ⟨q', 0, none⟩) (some ⟨q, 0, none⟩) 16 16 (nums 0 16) (nums 0 16) wj (by decide) HCj.out.rd HBj.out.rd).mono ?_
  rintro e wk ⟨rfl, hg⟩
  rw [decide_eq_true rfl]
  have HSk := Lib.hid (HSj.out.gr' hg)
  clear hg HSj HBj HCj
  go_wp2_with fail
  refine (show Calls Try.prog 19 #[.pointer (some ⟨a, 0, none⟩), .agg #[.int .i64 0, .int .i64 2, .int .i64 0], .int .i64 4, .agg #[.int .i64 c, .int .i64 0, .int .i64 0]] wk _ from store_st ⟨0, 2, 0⟩ ⟨c, 0, 0⟩ 4 HSk.out).mono ?_
  rintro e wl ⟨rfl, hs, hk⟩
  rw [enC]
  have HSl := Lib.hid hs
  clear hs hk HSk
  go_wp2_with fail
  go_ret
  exact ⟨rfl, HSl.out.gr⟩

end Go.Proofs.Ytblhnjoophhliaa
