/- New, Add: whole. -/
import Derived.Test.YtpgefmhjhiemkaaJg
import Derived.Test.YtpgefmhjhiemkaaShelf
import Derived.Sort.OwnSortedInts
import Derived.Lib.SliceRun
namespace Go.Proofs.Ytpgefmhjhiemkaa
open Go.RowKit
theorem Add13 (F : Nat → Prop) (m : Nat) (E : List Int) (x : Int) (W : World) (h : SetAt W F m E) :
    Calls Try.prog 14 #[.pointer (some ⟨m, 0, none⟩), .int .i64 x] W fun e w' => e = .returned (.bool (addI13 E x).2) ∧ Upd W w' F m (addI13 E x).1 := by
  by_cases hx : inS x ∧ x ∉ E
  · rw [show addI13 E x = (insI x E, true) by rw [addI13, if_pos ⟨hx.1.1, hx.1.2, hx.2⟩]]
    exact add_yes F m E x W h hx.1 hx.2
  · rw [show addI13 E x = (E, false) by rw [addI13, if_neg (fun hh => hx ⟨⟨hh.1, hh.2.1⟩, hh.2.2⟩)]]
    exact (add_no F m E x W h hx).mono fun e w' hh => ⟨hh.1, upd_same h hh.2⟩
/-- Numbers of the call's own, told as what a call hands back. -/
def OwnI (W : World) (l : List Int) (e : Ending) (w' : World) : Prop := ∃ v, e = .returned v ∧ OwI W.heap.size w' v l ∧ W.grownBy w' none
set_option maxRecDepth 100000 in
set_option maxHeartbeats 4000000 in
theorem clone_any (A : Option Addr) (n c : Nat) (l : List Int) (W : World) (hA : IntsAt W A n c l) (hl : l.length ≤ 1000000) :
    Calls Try.prog 27 #[.slice A n c] W (OwnI W l) := by
  have q22 : ∀ (w : World) (a : Option Addr) (n c n' c' : Nat), (binOp .eql 22 (.slice a n c) (.slice none n' c')).run Try.prog w = .ok (.bool a.isNone) w := fun w a n c n' c' => Lib.run_eql_slice_nil w _ _ a n c n' c' Try.underlying22
  obtain rfl : n = l.length := hA.1
  have HA := Lib.hid hA
  cases A with
  | none =>
    have h0 : l = [] := by
      rcases hA.2 with ⟨_, h0, _⟩ | ⟨_, e, _⟩
      · exact List.eq_nil_of_length_eq_zero h0
      · cases e
    subst h0
    clear hA
    go_enter Try.func27, Try.ntmps27
    go_wp2_with fail
    go_ret
    exact ⟨_, rfl, own_nil _ _ _ _, grownBy_refl _ _⟩
  | some ad =>
    obtain ⟨i0, hi, hz0, hz1, hz2⟩ := info_parts infoInt
    have hsrc : ∀ (j : Nat) (u : Value), (intsV l)[j]? = some u → W.cell? (ad.add j) = some u := fun j u hu => by
      unfold intsV at hu
      rw [List.getElem?_map] at hu
      obtain ⟨y, hy, rfl⟩ := Option.map_eq_some_iff.1 hu
      exact hA.cellOf hy
    have HS := Lib.hid hsrc
    have HI := Lib.hid hi
    have HZ0 := Lib.hid hz0
    have HZ1 := Lib.hid hz1
    have HZ2 := Lib.hid hz2
    clear hA hsrc hi hz0 hz1 hz2
    go_enter Try.func27, Try.ntmps27
    go_wp2_with (at_builtin; go_must (refine wpList_append_own _ rfl _ _ 22 rfl W.heap.size 3 i0 (.int .i64 0) 1 8 Try.underlying22 HI.out HZ0.out HZ1.out HZ2.out rfl (by decide) _ _ _ rfl (World.ownsRow_made W #[] 0 (Nat.le_refl _) (Nat.zero_le _) rfl) ad l.length c (intsV l) rfl (by rw [intsV_length, Nat.mul_one]) (fun j u hu => Lib.cell?_alloc_some _ (HS.out j u hu)) (intsV_one l) (by unfold maxLen; omega) (by omega) (by simp) ?_; intro v1 w1 ho1 hg1 _; have HO1 := Lib.hid ho1; have HG1 := Lib.hid hg1; clear ho1 hg1))
    go_ret
    refine ⟨v1, rfl, ?_, gr_own (gr_alloc (grownBy_refl W none) _) HG1.out (fun k hk => by injection hk with hk; have : W.heap.size = k := hk; omega)⟩
    have := HO1.out
    unfold OwI
    simpa using this
theorem sort_any (base : Nat) (v : Value) (l : List Int) (W : World) (h : OwI base W v l) (hl : l.length ≤ 1000000) :
    Calls Try.prog 28 #[v] W fun e w' => e = .returned (.tuple #[]) ∧ OwI base w' v (l.mergeSort fun x y => decide (x ≤ y)) ∧ W.grownBy w' v.ownBlock := by
  rcases h.2 with ⟨rfl, h0⟩ | ⟨g, cap, cur, rfl, hb, hh, hn, hc, hs, ht⟩
  · have h0' : l = [] := List.eq_nil_of_length_eq_zero h0
    subst h0'
    exact (Try.slices_Sort_int_none none 0 W).mono fun e w' ⟨he, hw⟩ => by
      subst hw
      exact ⟨he, by rw [List.mergeSort_nil]; exact own_nil _ _ _ _, gr_weak (grownBy_refl _ _)⟩
  · have hH := holds_of_blockI (ss := l) hh (by rw [← Nat.mul_one l.length]; exact ht)
    exact (Try.slices_Sort_int g 0 cap l W hH (lt_of_heap hh) (by omega)).mono fun e w' ⟨he, n, os, hw⟩ => by
      subst hw
      refine ⟨he, ?_, grownBy_sortedI _⟩
      have hp : (l.mergeSort fun x y => decide (x ≤ y)).length = l.length := List.length_mergeSort _
      have := ownsRow_sortedI (ts := l.mergeSort fun x y => decide (x ≤ y)) (os := os) (n := n) hp hb hh hn hc hs
      unfold OwI
      rw [hp]
      exact this

end Go.Proofs.Ytpgefmhjhiemkaa
