/- slices.Replace of no, one or two runs by one. -/
import Derived.Test.YtpgefmhjhiemkaaJd
namespace Go.Proofs.Ytpgefmhjhiemkaa
open Go.RowKit
set_option maxRecDepth 100000 in
set_option maxHeartbeats 4000000 in
theorem replace_zero (v : Value) (b i : Nat) (S : List (Int × Int)) (p : Int × Int) (W : World) (h : OwS 0 W v S) (hl : S.length ≤ 1000001) (hi : i ≤ S.length) (hb : W.heap[b]? = some (.cells (spC p) 47 (0, 0))) (hbg : ∀ g, v.ownBlock = some g → b ≠ g) :
    Calls Try.prog 33 #[v, .int .i64 i, .int .i64 i, .slice (some ⟨b, 0, none⟩) 1 1] W (InsIs W v (S.take i ++ [p] ++ S.drop i)) := by
  have HI := Lib.hid (insert_any v b i S p W h hl hi hb hbg)
  obtain ⟨A, c, rfl, hc, _, _⟩ := h.spn
  obtain ⟨n, hn⟩ : ∃ n, n = S.length := ⟨_, rfl⟩
  rw [← hn] at hl hi hc HI ⊢
  obtain ⟨Q2, hQ2⟩ : ∃ Q2, (if c = i then A else A.map (·.add (i * 2))) = Q2 := ⟨_, rfl⟩
  obtain ⟨P, hP⟩ : ∃ P, P = InsIs W (.slice A n c) (S.take i ++ [p] ++ S.drop i) := ⟨_, rfl⟩
  rw [← hP] at HI ⊢
  have HP := Lib.hid (show ∀ e w', P e w' → ∃ v', e = .returned v' from fun e w' h => by rw [hP] at h; obtain ⟨v', h, _⟩ := h; exact ⟨v', h⟩)
  have hic : i ≤ c := by omega
  clear h hb hbg hn hP
  go_enter Try.func33, Try.ntmps33
  go_wp2_with fail
  refine HI.out.mono ?_
  intro e w1 he
  obtain ⟨v', hv⟩ := HP.out e w1 he
  subst hv
  have HE := Lib.hid he
  clear he
  go_wp2_with fail
  exact HE.out
/-- What the walks below know of their row. -/
structure RpR (W : World) (g c n i : Nat) (S : List (Int × Int)) (R : List Value) : Prop where
  hg : W.heap[g]? = some (.cells R.toArray 47 (0, 0))
  hR : R.length = c * 2
  hn : n = S.length
  hc : n ≤ c
  hm : c ≤ maxLen
  take : R.take (i * 2) = flatC spC (S.take i)
  src : ∀ j, j ≤ n → (R.drop (j * 2)).take ((n - j) * 2) = flatC spC (S.drop j)
theorem rp_of {W : World} {g c n : Nat} {S : List (Int × Int)} (h : OwS 0 W (.slice (some ⟨g, 0, none⟩) n c) S) (i : Nat) (hi : i ≤ n) : ∃ R, RpR W g c n i S R := by
  obtain ⟨Z, hR, hZ, hn, hnc, hcm, _⟩ := h.row
  refine ⟨flatC spC S ++ Z, hR, ?_, hn, by omega, hcm, ?_, fun j hj => ?_⟩
  · rw [List.length_append, flat_len spC_size, hZ]; omega
  · rw [List.take_append_of_le_length (by rw [flat_len spC_size]; omega), flat_take2 S i (by omega)]
  · have hD : (flatC spC (S.drop j)).length = (n - j) * 2 := by rw [flat_len spC_size, List.length_drop, hn]
    rw [List.drop_append_of_le_length (by rw [flat_len spC_size]; omega), flat_drop2 S j (by omega), List.take_append_of_le_length (by rw [hD]; exact Nat.le_refl _), ← hD, List.take_length]
theorem flat_put (S : List (Int × Int)) (i : Nat) (p : Int × Int) : flatC spC (S.take i ++ [p]) = flatC spC (S.take i) ++ (spC p).toList := by
  rw [flat_app, show flatC spC [p] = (spC p).toList by simp [flatC]]
set_option maxRecDepth 100000 in
set_option maxHeartbeats 4000000 in
theorem replace_end1 (g c b i : Nat) (S : List (Int × Int)) (p : Int × Int) (W : World) (h : OwS 0 W (.slice (some ⟨g, 0, none⟩) (i + 1) c) S) (hl : i ≤ 1000001) (hb : W.heap[b]? = some (.cells (spC p) 47 (0, 0))) :
    Calls Try.prog 33 #[.slice (some ⟨g, 0, none⟩) (i + 1) c, .int .i64 i, .int .i64 ((i : Int) + 1), .slice (some ⟨b, 0, none⟩) 1 1] W (InsIs W (.slice (some ⟨g, 0, none⟩) (i + 1) c) (S.take i ++ [p])) := by
  obtain ⟨R, hr⟩ := rp_of h i (by omega)
  have hRl := hr.hR
  have hic := hr.hc
  have hcm2 : (c : Int) ≤ 9223372036854775807 := by have := hr.hm; unfold maxLen at this; omega
  have HB := Lib.hid hb
  have HR := Lib.hid hr
  have hb1 : ¬ c = i := by omega
  clear h hb hr
  go_enter Try.func33, Try.ntmps33
  go_wp2_with (at_builtin; go_must (refine wpList_room_spn rfl (.tmp 32) (.tmp 33) rfl g i c rfl b rfl p (0, 0) HB.out R HR.out.hg hic (by omega) ?_; intro w3 HR3 HG3))
  go_ret
  have hn := HR.out.hn
  have hl' : (S.take i ++ [p]).length = i + 1 := by simp; omega
  have e := HR3.out
  rw [HR.out.take, ← flat_put] at e
  refine ⟨.slice (some ⟨g, 0, none⟩) (i + 1) c, rfl, ?_, HG3.out, fun k hk => .inl hk⟩
  rw [← hl']
  exact OwS.of_row e (by rw [hl', List.length_drop, hRl]; omega) (by rw [hl']; exact hic) HR.out.hm (Nat.zero_le _)
set_option maxRecDepth 100000 in
set_option maxHeartbeats 4000000 in
theorem replace_end2 (g c b i : Nat) (S : List (Int × Int)) (p : Int × Int) (W : World) (h : OwS 0 W (.slice (some ⟨g, 0, none⟩) (i + 2) c) S) (hl : i ≤ 1000001) (hb : W.heap[b]? = some (.cells (spC p) 47 (0, 0))) :
    Calls Try.prog 33 #[.slice (some ⟨g, 0, none⟩) (i + 2) c, .int .i64 i, .int .i64 ((i : Int) + 2), .slice (some ⟨b, 0, none⟩) 1 1] W (InsIs W (.slice (some ⟨g, 0, none⟩) (i + 2) c) (S.take i ++ [p])) := by
  obtain ⟨R, hr⟩ := rp_of h i (by omega)
  have hRl := hr.hR
  have hic := hr.hc
  have hcm2 : (c : Int) ≤ 9223372036854775807 := by have := hr.hm; unfold maxLen at this; omega
  have HB := Lib.hid hb
  have HR := Lib.hid hr
  have hb1 : ¬ c = i := by omega
  have hb2 : ¬ c = i + 1 := by omega
  clear h hb hr
  obtain ⟨R1, hR1⟩ : ∃ R1, R1 = R.take (i * 2) ++ (spC p).toList ++ R.drop (i * 2 + 2) := ⟨_, rfl⟩
  have hR1l : R1.length = c * 2 := by
    rw [hR1, List.length_append, List.length_append, List.length_take, List.length_drop, hRl, show (spC p).toList.length = 2 from rfl]
    omega
  have HR1 := Lib.hid hR1
  have hf2 : (i + 1) * 2 + 2 ≤ R1.length := by omega
  go_enter Try.func33, Try.ntmps33
  go_wp2_with (first
    | (at_builtin; go_must (refine wpList_room_spn rfl (.tmp 32) (.tmp 33) rfl g i c rfl b rfl p (0, 0) HB.out R HR.out.hg (by omega) (by omega) ?_; intro w3 HR3 HG3; rw [← hR1] at HR3; clear hR1))
    | ((refine wpList_clear_spn rfl (.tmp 43) rfl g ((i + 1) * 2) _ _ rfl (by omega) R1 HR3.out hf2 ?_); intro w4 HR4 HG4; clear hf2))
  go_ret
  have hn := HR.out.hn
  have hl' : (S.take i ++ [p]).length = i + 1 := by simp; omega
  have e := HR4.out
  have hA : (flatC spC (S.take i) ++ (spC p).toList).length = (i + 1) * 2 := by rw [← flat_put, flat_len spC_size, hl']
  rw [HR1.out, HR.out.take, List.take_left' hA, ← flat_put, List.append_assoc] at e
  refine ⟨.slice (some ⟨g, 0, none⟩) (i + 1) c, rfl, ?_, grownBy_trans HG3.out HG4.out, fun k hk => .inl hk⟩
  rw [← hl']
  refine OwS.of_row e ?_ (by rw [hl']; omega) HR.out.hm (Nat.zero_le _)
  have hh := congrArg List.length HR1.out
  rw [HR.out.take, ← flat_put] at hh
  rw [hl', List.length_append, List.length_drop, ← hh, hR1l, show zz.length = 2 from rfl]
  omega

theorem clear_zero (ty : TypeId) (a : Option Addr) (c : Nat) (w : World) : (Builtin.clear_ #[42] ty #[.slice a 0 c]).run Try.prog w = .ok (.tuple #[]) w := by
  cases a <;> simp [Builtin.clear_, run_underlying Try.underlying42]
theorem put_drop {α : Type} {R p : List α} {a m : Nat} (hp : p.length = 2) (ha : a ≤ R.length) (hm : a + 2 ≤ m) : (R.take a ++ p ++ R.drop (a + p.length)).drop m = R.drop m := by
  have h1 : (R.take a ++ p).length = a + 2 := by rw [List.length_append, List.length_take, Nat.min_eq_left ha, hp]
  rw [List.drop_append, List.drop_eq_nil_of_le (by omega), List.nil_append, h1, List.drop_drop, hp]
  congr 1
  omega
set_option maxRecDepth 100000 in
set_option maxHeartbeats 4000000 in
theorem replace_mid1 (g c b i k : Nat) (S : List (Int × Int)) (p : Int × Int) (W : World) (hk : 1 ≤ k) (h : OwS 0 W (.slice (some ⟨g, 0, none⟩) (i + 1 + k) c) S) (hl : i + 1 + k ≤ 1000001) (hb : W.heap[b]? = some (.cells (spC p) 47 (0, 0))) :
    Calls Try.prog 33 #[.slice (some ⟨g, 0, none⟩) (i + 1 + k) c, .int .i64 i, .int .i64 ((i : Int) + 1), .slice (some ⟨b, 0, none⟩) 1 1] W (InsIs W (.slice (some ⟨g, 0, none⟩) (i + 1 + k) c) (S.take i ++ [p] ++ S.drop (i + 1))) := by
  obtain ⟨R, hr⟩ := rp_of h i (by omega)
  have hRl := hr.hR
  have hic := hr.hc
  have hcm2 : (c : Int) ≤ 9223372036854775807 := by have := hr.hm; unfold maxLen at this; omega
  have HB := Lib.hid hb
  have HR := Lib.hid hr
  have hgl := lt_of_heap hr.hg
  have hbl := lt_of_heap hb
  have hb1 : ¬ c = i := by omega
  have hb2 : ¬ c = i + 1 := by omega
  clear h hb hr
  have w1 : IntKind.i64.wrap ((i : Int) + 1) = (i : Int) + 1 := i64w (by omega) (by omega)
  have w2 : IntKind.i64.wrap ((i : Int) + 1 + (k : Int)) = (i : Int) + 1 + (k : Int) := i64w (by omega) (by omega)
  have w3 : ((i : Int) + 1).toNat = i + 1 := by omega
  have w4 : (0 : Int) ≤ (i : Int) + 1 := by omega
  have w5 : (i : Int) + 1 ≤ (i : Int) + 1 + (k : Int) := by omega
  have hs2 := box_src HB.out
  have hn2 : (spC p).toList.length = Nat.min 1 (i + 1 + k - i) * 2 := by
    rw [show Nat.min 1 (i + 1 + k - i) = 1 from Nat.min_eq_left (by omega)]
    rfl
  have hf2 : i * 2 + (spC p).toList.length ≤ R.length := by
    rw [hRl]
    show i * 2 + 2 ≤ _
    omega
  obtain ⟨R1, hR1⟩ : ∃ R1, R1 = R.take (i * 2) ++ (spC p).toList ++ R.drop (i * 2 + (spC p).toList.length) := ⟨_, rfl⟩
  have hR1l : R1.length = c * 2 := by
    rw [hR1, List.length_append, List.length_append, List.length_take, List.length_drop, hRl, show (spC p).toList.length = 2 from rfl]
    omega
  have HR1 := Lib.hid hR1
  have HD := Lib.hid (show (flatC spC (S.drop (i + 1))).length = k * 2 by rw [flat_len spC_size, List.length_drop, ← HR.out.hn]; omega)
  have hsrc1 : flatC spC (S.drop (i + 1)) = (R1.drop ((i + 1) * 2)).take (k * 2) := by
    rw [hR1, put_drop rfl (by rw [hRl]; omega) (by omega), ← HR.out.src (i + 1) (by omega)]
    congr 2
    omega
  go_enter Try.func33, Try.ntmps33
  go_wp2_with fail
  go_quiet (fail)
  go_wp2_with ((refine wpList_copy_spn rfl (.tmp 95) (.tmp 96) rfl g (i * 2) _ _ _ _ ⟨b, 0, none⟩ rfl rfl R (spC p).toList HR.out.hg hn2 hs2 hf2 (spC_one p) ?_); intro w6 HR3 HG3; rw [← hR1] at HR3; clear hR1 hn2 hs2 hf2)
  go_still_tail 9, (by kernel_rfl)
  change wpList _ _ _ _ _ w6.drew
  refine wpList_copy_spn rfl (.tmp 103) (.tmp 106) rfl g ((i + 1) * 2) _ _ _ _ ⟨g, (i + 1) * 2, none⟩ rfl rfl R1 (flatC spC (S.drop (i + 1))) HR3.out ?_ (row_src (show w6.drew.heap[g]? = _ from HR3.out) hsrc1) (by rw [HD.out, hR1l]; omega) (flat_one spC_one _) ?_
  · rw [HD.out, show k.min k = k from Nat.min_self _]
  · intro w7 HR4 HG4
    clear w1 w2 w3 w4 w5 hsrc1
    have hcl := clear_zero
    have HEND := Lib.hid (show InsIs W (.slice (some ⟨g, 0, none⟩) (i + 1 + k) c) (S.take i ++ [p] ++ S.drop (i + 1)) (.returned (.slice (some ⟨g, 0, none⟩) (i + 1 + k) c)) w7 from by
      have hn := HR.out.hn
      have e := HR4.out
      rw [HR1.out, show (i + 1) * 2 = i * 2 + 2 by omega, spl_two HR.out.take (by rw [flat_len spC_size, List.length_take, Nat.min_eq_left (by omega)]) rfl, ← flat_ins] at e
      have hl' : (S.take i ++ [p] ++ S.drop (i + 1)).length = i + 1 + k := by simp; omega
      refine ⟨_, rfl, ?_, grownBy_trans (grownBy_trans (gr_weak (gr_drewN (grownBy_refl W none) nq)) HG3.out) (grownBy_trans (gr_weak (grownBy_refl w6 none).gr_drew) HG4.out), fun k' hk' => .inl hk'⟩
      rw [← hl']
      exact OwS.of_row e (by rw [hl', List.length_drop, hRl, HD.out]; omega) (by rw [hl']; exact hic) HR.out.hm (Nat.zero_le _))
    by_cases hcn : c = i + 1 + k
    · subst hcn
      go_wp2_with fail
      go_ret
      exact HEND.out
    · go_wp2_with fail
      go_ret
      simpa using HEND.out

set_option maxRecDepth 100000 in
set_option maxHeartbeats 4000000 in
theorem replace_mid2 (g c b i k : Nat) (S : List (Int × Int)) (p : Int × Int) (W : World) (hk : 1 ≤ k) (h : OwS 0 W (.slice (some ⟨g, 0, none⟩) (i + 2 + k) c) S) (hl : i + 2 + k ≤ 1000001) (hb : W.heap[b]? = some (.cells (spC p) 47 (0, 0))) :
    Calls Try.prog 33 #[.slice (some ⟨g, 0, none⟩) (i + 2 + k) c, .int .i64 i, .int .i64 ((i : Int) + 2), .slice (some ⟨b, 0, none⟩) 1 1] W (InsIs W (.slice (some ⟨g, 0, none⟩) (i + 2 + k) c) (S.take i ++ [p] ++ S.drop (i + 2))) := by
  obtain ⟨R, hr⟩ := rp_of h i (by omega)
  have hRl := hr.hR
  have hic := hr.hc
  have hcm2 : (c : Int) ≤ 9223372036854775807 := by have := hr.hm; unfold maxLen at this; omega
  have HB := Lib.hid hb
  have HR := Lib.hid hr
  have hgl := lt_of_heap hr.hg
  have hbl := lt_of_heap hb
  have hb1 : ¬ c = i := by omega
  have hb2 : ¬ c = i + 1 := by omega
  have hb3 : ¬ c = i + 2 := by omega
  have hb4 : ¬ c = i + 1 + k := by omega
  clear h hb hr
  have w1 : IntKind.i64.wrap ((i : Int) + 1) = (i : Int) + 1 := i64w (by omega) (by omega)
  have w2 : IntKind.i64.wrap ((i : Int) + 1 + (k : Int)) = (i : Int) + 1 + (k : Int) := i64w (by omega) (by omega)
  have w3 : ((i : Int) + 1).toNat = i + 1 := by omega
  have w4 : (0 : Int) ≤ (i : Int) + 1 := by omega
  have w5 : (i : Int) + 1 ≤ (i : Int) + 1 + (k : Int) := by omega
  have x6 : ((i : Int) + 2).toNat = i + 2 := by omega
  have x7 : (0 : Int) ≤ (i : Int) + 2 := by omega
  have x8 : (i : Int) + 2 ≤ (i : Int) + 2 + (k : Int) := by omega
  have hs2 := box_src HB.out
  have hn2 : (spC p).toList.length = Nat.min 1 (i + 1 + k - i) * 2 := by
    rw [show Nat.min 1 (i + 1 + k - i) = 1 from Nat.min_eq_left (by omega)]
    rfl
  have hf2 : i * 2 + (spC p).toList.length ≤ R.length := by
    rw [hRl]
    show i * 2 + 2 ≤ _
    omega
  obtain ⟨R1, hR1⟩ : ∃ R1, R1 = R.take (i * 2) ++ (spC p).toList ++ R.drop (i * 2 + (spC p).toList.length) := ⟨_, rfl⟩
  have hR1l : R1.length = c * 2 := by
    rw [hR1, List.length_append, List.length_append, List.length_take, List.length_drop, hRl, show (spC p).toList.length = 2 from rfl]
    omega
  have HR1 := Lib.hid hR1
  have HD := Lib.hid (show (flatC spC (S.drop (i + 2))).length = k * 2 by rw [flat_len spC_size, List.length_drop, ← HR.out.hn]; omega)
  have hsrc1 : flatC spC (S.drop (i + 2)) = (R1.drop ((i + 2) * 2)).take (k * 2) := by
    rw [hR1, put_drop rfl (by rw [hRl]; omega) (by omega), ← HR.out.src (i + 2) (by omega)]
    congr 2
    omega
  go_enter Try.func33, Try.ntmps33
  go_wp2_with fail
  go_quiet (fail)
  go_wp2_with ((refine wpList_copy_spn rfl (.tmp 95) (.tmp 96) rfl g (i * 2) _ _ _ _ ⟨b, 0, none⟩ rfl rfl R (spC p).toList HR.out.hg hn2 hs2 hf2 (spC_one p) ?_); intro w6 HR3 HG3; rw [← hR1] at HR3; clear hR1 hn2 hs2 hf2)
  go_still_tail 9, (by kernel_rfl)
  change wpList _ _ _ _ _ w6.drew
  refine wpList_copy_spn rfl (.tmp 103) (.tmp 106) rfl g ((i + 1) * 2) _ _ _ _ ⟨g, (i + 2) * 2, none⟩ rfl rfl R1 (flatC spC (S.drop (i + 2))) HR3.out ?_ (row_src (show w6.drew.heap[g]? = _ from HR3.out) hsrc1) (by rw [HD.out, hR1l]; omega) (flat_one spC_one _) ?_
  · rw [HD.out, show k.min k = k from Nat.min_self _]
  · intro w7 HR4 HG4
    clear w1 w2 w3 w4 w5 x6 x7 x8 hsrc1
    obtain ⟨R2, hR2⟩ : ∃ R2, R2 = R1.take ((i + 1) * 2) ++ flatC spC (S.drop (i + 2)) ++ R1.drop ((i + 1) * 2 + (flatC spC (S.drop (i + 2))).length) := ⟨_, rfl⟩
    rw [← hR2] at HR4
    have HR2 := Lib.hid hR2
    have hR2l : R2.length = c * 2 := by
      rw [hR2, List.length_append, List.length_append, List.length_take, List.length_drop, hR1l, HD.out]
      omega
    have hf3 : (i + 1 + k) * 2 + 2 ≤ R2.length := by omega
    clear hR2
    go_wp2_with ((refine wpList_clear_spn rfl (.tmp 110) rfl g ((i + 1 + k) * 2) _ _ rfl (by omega) R2 HR4.out hf3 ?_); intro w8 HR5 HG5; clear hf3)
    go_ret
    have hn := HR.out.hn
    have hl' : (S.take i ++ [p] ++ S.drop (i + 2)).length = i + 1 + k := by simp; omega
    have e := HR5.out
    have hA : (flatC spC (S.take i)).length = i * 2 := by rw [flat_len spC_size, List.length_take, Nat.min_eq_left (by omega)]
    have e2 := HR2.out
    rw [HR1.out, show (i + 1) * 2 = i * 2 + 2 by omega, spl_two HR.out.take hA rfl, ← flat_ins] at e2
    rw [e2, List.take_left' (by rw [flat_len spC_size, hl']), List.append_assoc] at e
    refine ⟨.slice (some ⟨g, 0, none⟩) (i + 1 + k) c, rfl, ?_, grownBy_trans (grownBy_trans (grownBy_trans (gr_weak (gr_drewN (grownBy_refl W none) nq)) HG3.out) (grownBy_trans (gr_weak (grownBy_refl _ none).gr_drew) HG4.out)) HG5.out, fun k' hk' => .inl hk'⟩
    rw [← hl']
    refine OwS.of_row e ?_ (by rw [hl']; omega) HR.out.hm (Nat.zero_le _)
    have hh := hR2l
    rw [e2, List.length_append, flat_len spC_size, hl'] at hh
    rw [hl', List.length_append, List.length_drop, List.length_append, flat_len spC_size, hl', show zz.length = 2 from rfl]
    omega

theorem replace_any (v : Value) (b i d : Nat) (J : Int) (S : List (Int × Int)) (p : Int × Int) (W : World) (h : OwS 0 W v S) (hl : S.length ≤ 1000001) (hd : d ≤ 2) (hi : i + d ≤ S.length) (hJ : J = (i : Int) + (d : Int)) (hb : W.heap[b]? = some (.cells (spC p) 47 (0, 0))) (hbg : ∀ g, v.ownBlock = some g → b ≠ g) :
    Calls Try.prog 33 #[v, .int .i64 i, .int .i64 J, .slice (some ⟨b, 0, none⟩) 1 1] W (InsIs W v (S.take i ++ [p] ++ S.drop (i + d))) := by
  rcases (show d = 0 ∨ d = 1 ∨ d = 2 by omega) with rfl | rfl | rfl
  · obtain rfl : J = (i : Int) := by omega
    exact replace_zero v b i S p W h hl hi hb hbg
  · obtain rfl : J = (i : Int) + 1 := by omega
    obtain ⟨g, c, rfl, _, _, _, _⟩ := h.parts (fun e => by rw [e] at hi; simp at hi)
    rcases Nat.eq_or_lt_of_le hi with e | e
    · rw [List.drop_eq_nil_of_le (by omega), List.append_nil]
      rw [← e] at h ⊢
      exact replace_end1 g c b i S p W h (by omega) hb
    · obtain ⟨k, hk⟩ : ∃ k, S.length = i + 1 + k := ⟨S.length - (i + 1), by omega⟩
      rw [hk] at h ⊢
      exact replace_mid1 g c b i k S p W (by omega) h (by omega) hb
  · obtain rfl : J = (i : Int) + 2 := by omega
    obtain ⟨g, c, rfl, _, _, _, _⟩ := h.parts (fun e => by rw [e] at hi; simp at hi)
    rcases Nat.eq_or_lt_of_le hi with e | e
    · rw [List.drop_eq_nil_of_le (by omega), List.append_nil]
      rw [← e] at h ⊢
      exact replace_end2 g c b i S p W h (by omega) hb
    · obtain ⟨k, hk⟩ : ∃ k, S.length = i + 2 + k := ⟨S.length - (i + 2), by omega⟩
      rw [hk] at h ⊢
      exact replace_mid2 g c b i k S p W (by omega) h (by omega) hb

end Go.Proofs.Ytpgefmhjhiemkaa
