/- Where a run stands: find, its closure, sort.Search. -/
import Derived.Test.YtpgefmhjhiemkaaJ1
namespace Go.Proofs.Ytpgefmhjhiemkaa
open Go.RowKit
def fst_ (w W : World) : Prop := w.grownBy W none
set_option maxRecDepth 100000 in
set_option maxHeartbeats 4000000 in
theorem find1_any (A : Option Addr) (n c b0 b1 i : Nat) (S : List (Int × Int)) (x : Int) (p : Int × Int) (w : World) (hn : n = S.length) (hS : SpnAt w A S) (hp : S[i]? = some p)
    (h0 : w.heap[b0]? = some (.cells #[.slice A n c] 42 (0, 0))) (h1 : w.heap[b1]? = some (.cells #[.int .i64 x] 3 (0, 0))) :
    Calls Try.prog 41 #[.int .i64 i, .pointer (some ⟨b0, 0, none⟩), .pointer (some ⟨b1, 0, none⟩)] w fun e w' => e = .returned (.bool (decide (x ≤ p.2))) ∧ w.grownBy w' none := by
  obtain ⟨ad, rfl⟩ := hS.some_ (List.getElem?_eq_some_iff.1 hp).1
  have hi : i < n := by rw [hn]; exact (List.getElem?_eq_some_iff.1 hp).1
  obtain ⟨c0, c1⟩ := sp_cells hS hp
  have d0 : w.cell? ⟨b0, 0, none⟩ = some (.slice (some ad) n c) := by simp [World.cell?, h0]
  have d1 : w.cell? ⟨b1, 0, none⟩ = some (.int .i64 x) := by simp [World.cell?, h1]
  clear hn hS hp h0 h1 c0
  go_enter Try.func41, Try.ntmps41
  go_wp2_with fail
  go_quiet (fail)
  go_wp2_with fail
  go_ret
  exact ⟨rfl, gr_drewN (grownBy_refl _ _) _⟩
/-- Where the search stands. -/
def SrRel (S : List (Int × Int)) (x : Int) (w : World) (i j : Value) (wr : World) : Prop :=
  ∃ lo hi : Nat, i = .int .i64 lo ∧ j = .int .i64 hi ∧ lo ≤ hi ∧ hi ≤ S.length ∧ (∀ (k : Nat) (p : Int × Int), S[k]? = some p → k < lo → p.2 < x) ∧ (∀ (k : Nat) (p : Int × Int), S[k]? = some p → hi ≤ k → x ≤ p.2) ∧ w.grownBy wr none
set_option maxRecDepth 100000 in
set_option maxHeartbeats 4000000 in
theorem Search_any (A : Option Addr) (n c b0 b1 : Nat) (S : List (Int × Int)) (x : Int) (w : World) (hn : n = S.length) (hS : SpnAt w A S) (hok : SpOk S)
    (h0 : w.heap[b0]? = some (.cells #[.slice A n c] 42 (0, 0))) (h1 : w.heap[b1]? = some (.cells #[.int .i64 x] 3 (0, 0))) (hl : n ≤ 1000000000000) :
    Calls Try.prog 40 #[.int .i64 n, .func (.func 41) #[] #[.pointer (some ⟨b0, 0, none⟩), .pointer (some ⟨b1, 0, none⟩)]] w fun e w' => ∃ i : Nat, e = .returned (.int .i64 i) ∧ Fnd S x i ∧ w.grownBy w' none := by
  have HS := Lib.hid hS
  have HOK := Lib.hid hok
  have H0 := Lib.hid h0
  have H1 := Lib.hid h1
  have hb0 := lt_of_heap h0
  have hb1 := lt_of_heap h1
  obtain rfl := hn
  clear hS hok h0 h1
  go_enter Try.func40, Try.ntmps40
  go_wp2_with fail
  go_loopw [5, 6] (fun i j wr => SrRel S x w i j wr) (fun i j _ => (intOf j).toNat - (intOf i).toNat)
  case atStart => exact ⟨0, S.length, rfl, rfl, Nat.zero_le _, Nat.le_refl _, fun _ _ _ h => by omega, fun k p hk h => by have := (List.getElem?_eq_some_iff.1 hk).1; omega, grownBy_refl _ _⟩
  case round =>
    obtain ⟨lo, hi, rfl, rfl, hlh, hhl, hlo, hhi, hg⟩ := hrel
    have HLO := Lib.hid hlo
    have HHI := Lib.hid hhi
    have HG := Lib.hid hg
    clear hlo hhi hg
    by_cases hlt : lo < hi
    · obtain ⟨m, hm⟩ : ∃ m, m = (lo + hi) / 2 := ⟨_, rfl⟩
      have HMI := Lib.hid (show ((m : Nat) : Int) = ((lo : Int) + (hi : Int)) / 2 by omega)
      have HMS := Lib.hid (show ((m + 1 : Nat) : Int) = ((lo : Int) + (hi : Int)) / 2 + 1 by omega)
      have hm1 : lo ≤ m := by omega
      have hm2 : m < hi := by omega
      clear hm
      have hx := List.getElem?_eq_getElem (show m < S.length by omega)
      generalize S[m] = p at hx
      have HX := Lib.hid hx
      have hc := find1_any A S.length c b0 b1 m S x p wr rfl (HS.out.keep HG.out) hx ((HG.out.block _ hb0 (by simp)).trans H0.out) ((HG.out.block _ hb1 (by simp)).trans H1.out)
      rw [HMI.out] at hc
      clear hx
      by_cases hp : x ≤ p.2
      · rw [decide_eq_true hp] at hc
        have HP := Lib.hid hp
        clear hp
        go_wp2_with fail
        refine hc.mono ?_
        rintro e w1 ⟨rfl, hg1⟩
        go_wp2_with fail
        go_roundw
        case rel => exact ⟨lo, m, rfl, by rw [HMI.out], by omega, by omega, HLO.out, fun k q hk h => by
          rcases Nat.lt_or_ge m k with e | e
          · have := HOK.out.lt HX.out hk e
            have := HOK.out.le hk
            have := HP.out
            omega
          · obtain rfl : k = m := by omega
            rw [HX.out] at hk
            injection hk with hk
            subst hk
            exact HP.out, grownBy_trans HG.out hg1⟩
        case measure => simp [intOf]; omega
      · rw [decide_eq_false hp] at hc
        have HP := Lib.hid hp
        clear hp
        go_wp2_with fail
        refine hc.mono ?_
        rintro e w1 ⟨rfl, hg1⟩
        go_wp2_with fail
        go_roundw
        case rel => exact ⟨m + 1, hi, by rw [HMS.out], rfl, by omega, hhl, fun k q hk h => by
          have h3 := HP.out
          rcases Nat.lt_or_ge k m with e | e
          · have := HOK.out.lt hk HX.out e
            have := HOK.out.le HX.out
            omega
          · obtain rfl : k = m := by omega
            rw [HX.out] at hk
            injection hk with hk
            subst hk
            omega, HHI.out, grownBy_trans HG.out hg1⟩
        case measure => simp [intOf]; omega
    · obtain rfl : lo = hi := by omega
      go_wp2_with fail
      go_ret
      exact ⟨lo, rfl, ⟨hhl, HLO.out, HHI.out⟩, HG.out⟩
set_option maxRecDepth 100000 in
set_option maxHeartbeats 4000000 in
theorem find_any (A : Option Addr) (n c : Nat) (S : List (Int × Int)) (x : Int) (w : World) (hn : n = S.length) (hS : SpnAt w A S) (hok : SpOk S) (hl : n ≤ 1000000000000) :
    Calls Try.prog 32 #[.slice A n c, .int .i64 x] w fun e w' => ∃ i : Nat, e = .returned (.int .i64 i) ∧ Fnd S x i ∧ w.grownBy w' none := by
  have HS := Lib.hid hS
  have HOK := Lib.hid hok
  have HN := Lib.hid hn
  clear hS hok hn
  go_enter Try.func32, Try.ntmps32
  go_wp2_with fail
  refine (Search_any A n c w.heap.size (w.heap.size + 1) S x _ HN.out (HS.out.keep (by repeat (first | with_reducible exact grownBy_refl _ _ | with_reducible assumption | with_reducible refine World.grownBy.gr_drew ?_ | with_reducible refine World.grownBy.gr_set ?_ (by simp) _ | with_reducible refine gr_alloc ?_ _))) HOK.out ((Below.heap_alloc _ _ _ (by simp)).trans (heap_alloc_new w _)) (by have h := heap_alloc_new (w.alloc (.cells #[.slice A n c] 42)) (.cells #[.int .i64 x] 3); rw [show (w.alloc (.cells #[.slice A n c] 42)).heap.size = w.heap.size + 1 by simp] at h; exact h) hl).mono ?_
  rintro e w1 ⟨i, rfl, hF, hg⟩
  have HF := Lib.hid hF
  have HG := Lib.hid (grownBy_trans (show w.grownBy _ none by repeat (first | with_reducible exact grownBy_refl _ _ | with_reducible assumption | with_reducible refine World.grownBy.gr_drew ?_ | with_reducible refine World.grownBy.gr_set ?_ (by simp) _ | with_reducible refine gr_alloc ?_ _)) hg)
  clear hF hg
  go_wp2_with fail
  go_ret
  exact ⟨i, rfl, HF.out, HG.out⟩

end Go.Proofs.Ytpgefmhjhiemkaa
