/- NormSteps, walked. -/
import Derived.Test.YtjfbkogjgjmndaaDoorNl
namespace Go.Proofs.YtjfbkogjgjmndaaDoor
open Go.RowKit
theorem norm8 (r : Nat) (hr : r < 20) (N M o : Int) (hN : N = (r : Int) + 1) (hM : M = 8 * N) (h0 : 0 ≤ o) (h1 : o ≤ M) (b : Nat) (w : World) (hv : VarsK w) (hb : ArrAt w b 4) :
    Calls Tryd.prog 5 #[.slice none 0 0, .agg #[.int .i64 6, .int .i64 N, .string ⟨#[]⟩, .slice (some ⟨b, 0, none⟩) 1 1], .int .i64 o] w fun e w' => e = .returned (.tuple #[.int .i64 (if o = M then M else o % 8), .int .i64 0]) ∧ w.grownBy w' none := by
  subst hN hM
  have h := Norm_ar r 4 o b 1 rfl (by rw [show widthK 4 = 8 from rfl]; omega) h0 h1 w hv hb
  exact h
set_option maxRecDepth 100000 in
set_option maxHeartbeats 4000000 in
theorem steps_walk (n off k : Nat) (hn : n < 256) (ho : off < 65536) (hk : k < 256) (w : World) (hv : VarsK w) :
    Calls Tryd.prog 3 #[.int .u8 n, .int .u16 off, .int .u8 k] w fun e w' => e = .returned (.bool true) ∧ w.grownBy w' none := by
  have HV := Lib.hid hv
  clear hv
  obtain ⟨r, hr⟩ : ∃ r, r = n % 20 := ⟨_, rfl⟩
  have hr20 : r < 20 := by omega
  obtain ⟨N, hN⟩ : ∃ N : Int, 1 + (n : Int) % 20 = N := ⟨_, rfl⟩
  have hNr : N = (r : Int) + 1 := by omega
  obtain ⟨M, hM⟩ : ∃ M : Int, 8 * N = M := ⟨_, rfl⟩
  have hMr : M = widthK 4 * ((r : Int) + 1) := by rw [show widthK 4 = 8 from rfl]; omega
  have hM8 : 8 ≤ M ∧ M ≤ 160 := by omega
  obtain ⟨a, ha⟩ : ∃ a : Int, (off : Int) % M = a := ⟨_, rfl⟩
  have ha0 : 0 ≤ a := by rw [← ha]; exact Int.emod_nonneg _ (by omega)
  have haM : a < M := by rw [← ha]; exact Int.emod_lt_of_pos _ (by omega)
  obtain ⟨x, hx⟩ : ∃ x : Int, a % 8 = x := ⟨_, rfl⟩
  have hx8 : 0 ≤ x ∧ x < 8 := by omega
  obtain ⟨d, hd⟩ : ∃ d : Int, 8 - x = d := ⟨_, rfl⟩
  obtain ⟨j, hj⟩ : ∃ j : Int, (k : Int) % d = j := ⟨_, rfl⟩
  have hj0 : 0 ≤ j := by rw [← hj]; exact Int.emod_nonneg _ (by omega)
  have hjd : j < d := by rw [← hj]; exact Int.emod_lt_of_pos _ (by omega)
  obtain ⟨s, hs⟩ : ∃ s : Int, a + j = s := ⟨_, rfl⟩
  have hsM : s ≤ M := by omega
  have hs0 : 0 ≤ s := by omega
  have hxt : Int.tmod a 8 = x := by rw [Int.tmod_eq_emod_of_nonneg ha0]; exact hx
  have hd0 : ¬ d = 0 := by omega
  have hM0 : ¬ M = 0 := by omega
  have HNR := Lib.hid hNr
  have HMR := Lib.hid hMr
  have HXX := Lib.hid hx
  have HDD := Lib.hid hd
  have HSS := Lib.hid hs
  clear hr hNr hMr
  go_enter Tryd.func3, Tryd.ntmps3
  go_wp2_with fail
  refine (shown_any w HV.out).mono ?_
  rintro e w1 ⟨rfl, hg⟩
  have HG1 := Lib.hid hg
  clear hg
  have HMM := Lib.hid (show M = 8 * N from hM.symm)
  have hxj : s ≠ M → s % 8 = x + j := fun _ => by omega
  have HXJ := Lib.hid hxj
  have HAM := Lib.hid (show ¬ a = M by omega)
  clear hxj
  go_wp2_with fail
  have k1 := blk_alloc (blk_new w1 (.cells #[.int .i64 4, .int .i64 0, .string ⟨#[]⟩, .slice none 0 0] 26)) (.cells #[.int .i64 6, .int .i64 N, .string ⟨#[]⟩, .slice (some ⟨w1.heap.size, 0, none⟩) 1 1] 26)
  have k2 := blk_new (w1.alloc (.cells #[.int .i64 4, .int .i64 0, .string ⟨#[]⟩, .slice none 0 0] 26)) (.cells #[.int .i64 6, .int .i64 N, .string ⟨#[]⟩, .slice (some ⟨w1.heap.size, 0, none⟩) 1 1] 26)
  rw [World.size_alloc] at k2
  have g2 := gr_alloc (gr_alloc HG1.out (.cells #[.int .i64 4, .int .i64 0, .string ⟨#[]⟩, .slice none 0 0] 26)) (.cells #[.int .i64 6, .int .i64 N, .string ⟨#[]⟩, .slice (some ⟨w1.heap.size, 0, none⟩) 1 1] 26)
  generalize ((w1.alloc (.cells #[.int .i64 4, .int .i64 0, .string ⟨#[]⟩, .slice none 0 0] 26)).alloc (.cells #[.int .i64 6, .int .i64 N, .string ⟨#[]⟩, .slice (some ⟨w1.heap.size, 0, none⟩) 1 1] 26)) = w2 at *
  refine (norm8 r hr20 N M a HNR.out HMM.out ha0 (by omega) _ w2 (HV.out.grown g2) k1).mono ?_
  rintro e w3 ⟨rfl, hg⟩
  rw [if_neg HAM.out, HXX.out]
  have HK1 := Lib.hid ((hg.block _ (lt_of_heap k1) (by simp)).trans k1)
  have k3 := (hg.block _ (lt_of_heap k2) (by simp)).trans k2
  obtain ⟨c0, c1, c2, c3, -⟩ := cells4_of k3
  have HG3 := Lib.hid (grownBy_trans g2 hg)
  clear hg k1 k2 k3 g2 HG1
  go_wp2_with fail
  refine (norm8 r hr20 N M s HNR.out HMM.out hs0 hsM _ w3 (HV.out.grown HG3.out) HK1.out).mono ?_
  rintro e w4 ⟨rfl, hg⟩
  have HG4 := Lib.hid (grownBy_trans HG3.out hg)
  clear hg c0 c1 c2 c3
  by_cases hsm : s = M
  · rw [if_pos hsm]
    go_wp2_with fail
    go_ret
    exact ⟨rfl, HG4.out⟩
  · rw [if_neg hsm, HXJ.out hsm]
    have hsm2 : (s == M) = false := by simp [hsm]
    go_wp2_with fail
    go_ret
    exact ⟨rfl, HG4.out⟩

end Go.Proofs.YtjfbkogjgjmndaaDoor
