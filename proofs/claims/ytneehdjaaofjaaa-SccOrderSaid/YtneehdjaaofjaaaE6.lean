/- scc: a visitor is made; Reach. -/
import Derived.Test.YtneehdjaaofjaaaE5
import Derived.Test.YtneehdjaaofjaaaShelf
import Derived.Sort.OwnSortedInts
import Derived.Lib.SliceRun
import Derived.Deep.DeepCutAuto
import Derived.Laws.EntriesVeiled
namespace Go.Proofs.Ytneehdjaaofjaaa
open Go.RowKit
set_option maxRecDepth 100000 in
set_option maxHeartbeats 4000000 in
theorem visitor_any (A : Option Addr) (N c : Nat) (G : List (List Int)) (w : World) (O0 : Nat → Prop) (hG : GrP w A G O0) (hN : N ≤ 20000) :
    Calls Try.prog 27 #[.slice A N c] w fun e wb => ∃ r pv pg pf : Nat, e = .returned (.func (.func 35) #[] #[.pointer (some ⟨pv, 0, none⟩), .pointer (some ⟨pg, 0, none⟩), .pointer (some ⟨pf, 0, none⟩)]) ∧ VstP wb A N c G r pv pg pf (fun k => (O0 k ∧ k < w.heap.size) ∨ (w.heap.size ≤ k ∧ k ≠ r)) ∧ MkAt w.heap.size wb r N (List.replicate N false) ∧ w.grownBy wb none ∧ w.heap.size ≤ r := by
  have HGA := Lib.hid hG
  clear hG
  obtain ⟨i0, hi, hz0, hz1, hz2⟩ := info_parts infoBool
  go_enter Try.func27, Try.ntmps27
  go_wp2_with (at_make; go_must (refine wpList_make_full _ rfl (.tmp 6) (.tmp 6) 43 rfl w.heap.size 4 i0 _ 1 Try.underlying43 hi hz0 hz1 .i64 .i64 (N : Int) (N : Int) N rfl rfl rfl rfl (by rw [hz2]; omega) (by unfold maxLen; omega) (by simp) ?_; intro w1 ho1 hg1; have HM1 := Lib.hid (MkAt.first ho1); have HG1 := Lib.hid hg1; clear ho1 hg1 hi hz0 hz1 hz2))
  go_ret
  have hg0 : w.grownBy (w.alloc (.cells #[.slice A N c] 38)) none := gr_alloc (grownBy_refl _ _) _
  have hgw : w.grownBy w1 none := grownBy_trans hg0 HG1.out
  have hb1 : w1.heap[w.heap.size]? = some (.cells #[.slice A N c] 38 (0, 0)) := (HG1.out.block _ (by simp) (by simp)).trans (heap_alloc_new w _)
  have hr1 : w.heap.size + 1 < w1.heap.size := by have := HM1.out.lt.2; simpa using this
  obtain ⟨fn, hfn⟩ : ∃ fn, fn = Value.func (.func 35) #[] #[.pointer (some ⟨w1.heap.size, 0, none⟩), .pointer (some ⟨w.heap.size, 0, none⟩), .pointer (some ⟨w1.heap.size + 1, 0, none⟩)] := ⟨_, rfl⟩
  rw [← hfn]
  have hg2 : w1.grownBy ((w1.alloc (.cells #[.slice (some ⟨w.heap.size + 1, 0, none⟩) N N] 43)).alloc (.cells #[fn] 52)) none := gr_alloc (gr_alloc (grownBy_refl _ _) _) _
  refine ⟨w.heap.size + 1, w1.heap.size, w.heap.size, w1.heap.size + 1, by rw [hfn]; rfl, ⟨?_, ?_, ?_, ⟨.inr ⟨by omega, by omega⟩, .inr ⟨by omega, by omega⟩, .inr ⟨by omega, by omega⟩⟩, ?_⟩, ?_, grownBy_trans hgw hg2, Nat.le_succ _⟩
  · rw [Below.heap_alloc _ _ _ (by simp)]
    exact heap_alloc_new w1 _
  · exact (hg2.block _ (by omega) (by simp)).trans hb1
  · rw [← hfn]
    have h := heap_alloc_new (w1.alloc (.cells #[.slice (some ⟨w.heap.size + 1, 0, none⟩) N N] 43)) (.cells #[fn] 52)
    rwa [World.size_alloc] at h
  · exact (HGA.out.mono fun x hx hl => .inl ⟨hx, hl⟩).keep fun k hk hl => (grownBy_trans hgw hg2).block k hl (by simp)
  · have h := HM1.out.gr hg2
    rw [World.size_alloc] at h
    exact h
/-- Some visits, one behind the other. -/
structure Seqs (ps : List (Nat × Nat)) (M : List Bool) (is : List Nat) (new : List Nat) (K : List Bool) : Prop where
  made ::
  seg : Seg ps M new K
  met : ∀ j ∈ is, mk K j
  way : ∀ b ∈ new, ∃ i ∈ is, LdA ps M i b
theorem Seqs.first (ps : List (Nat × Nat)) (M : List Bool) : Seqs ps M [] [] M := ⟨.refl _ _, fun j h => (by cases h), fun j h => (by cases h)⟩
theorem Seqs.next {ps : List (Nat × Nat)} {M K J : List Bool} {is A B : List Nat} {j : Nat} (h : Seqs ps M is A K) (k : Vis ps K j B J) : Seqs ps M (is ++ [j]) (A ++ B) J := by
  refine ⟨h.seg.append k.seg, fun x hx => ?_, fun b hb => ?_⟩
  · rcases List.mem_append.1 hx with hx | hx
    · exact k.seg.keeps (h.met x hx)
    · rw [List.mem_singleton] at hx
      subst hx
      exact k.own
  · rcases List.mem_append.1 hb with hb | hb
    · obtain ⟨i, h1, h2⟩ := h.way b hb
      exact ⟨i, by simp [h1], h2⟩
    · exact ⟨j, by simp, (k.way b hb).mono fun _ => h.seg.keeps⟩
theorem none_mk (N x : Nat) : ¬ mk (List.replicate N false) x := fun h => by
  unfold mk at h
  rw [List.getElem?_replicate] at h
  split at h
  · injection h with h; cases h
  · cases h
/-- From nothing marked: all that the numbers lead to. -/
theorem Seqs.all {ps : List (Nat × Nat)} {N : Nat} {K : List Bool} {is A : List Nat} (h : Seqs ps (List.replicate N false) is A K) (b : Nat) : b ∈ A ↔ ∃ i ∈ is, Lds ps i b := by
  constructor
  · intro hb
    obtain ⟨i, h1, h2⟩ := h.way b hb
    exact ⟨i, h1, h2.lds⟩
  · rintro ⟨i, h1, h2⟩
    exact h.seg.stays (((h.seg.mks i).1 (h.met i h1)).elim (fun m => absurd m (none_mk N i)) id) (LdA.of_none (none_mk N) h2)
theorem fcnt_none (N : Nat) : fcnt (List.replicate N false) = N := by
  unfold fcnt
  induction N with
  | zero => rfl
  | succ n ih => rw [List.replicate_succ, List.countP_cons, ih]; rfl
theorem gr_weak2 {a b : World} {r : Option Nat} (h : a.grownBy b none) : a.grownBy b r := ⟨h.os, h.tape, h.output, h.size, fun k hk _ => h.block k hk (by simp)⟩
theorem sort_own (base : Nat) (v : Value) (l : List Int) (W : World) (h : OwN base W v l) (hl : l.length ≤ 1000000) :
    Calls Try.prog 29 #[v] W fun e w' => e = .returned (.tuple #[]) ∧ OwN base w' v (l.mergeSort fun x y => decide (x ≤ y)) ∧ W.grownBy w' v.ownBlock := by
  rcases h.2 with ⟨rfl, h0⟩ | ⟨g, cap, cur, rfl, hb, hh, hn, hc, hs, ht⟩
  · have h0' : l = [] := List.eq_nil_of_length_eq_zero h0
    subst h0'
    exact (Try.slices_Sort_int_none none 0 W).mono fun e w' ⟨he, hw⟩ => by
      subst hw
      exact ⟨he, by rw [List.mergeSort_nil]; exact own_nil _ _ _ _, gr_weak2 (grownBy_refl _ _)⟩
  · have hH := holds_of_blockI (ss := l) hh (by rw [← Nat.mul_one l.length]; exact ht)
    exact (Try.slices_Sort_int g 0 cap l W hH (lt_of_heap hh) (by omega)).mono fun e w' ⟨he, n, os, hw⟩ => by
      subst hw
      refine ⟨he, ?_, grownBy_sortedI _⟩
      have hp : (l.mergeSort fun x y => decide (x ≤ y)).length = l.length := List.length_mergeSort _
      have := ownsRow_sortedI (ts := l.mergeSort fun x y => decide (x ≤ y)) (os := os) (n := n) hp hb hh hn hc hs
      unfold OwN
      rw [hp]
      exact this
/-- Sorted numbers that are all different rise. -/
theorem sort_rise {l : List Nat} (h : l.Nodup) : RiseI ((nI l).mergeSort fun x y => decide (x ≤ y)) ∧ ∀ x : Int, x ∈ (nI l).mergeSort (fun x y => decide (x ≤ y)) ↔ x ∈ nI l := by
  obtain ⟨S, hS⟩ : ∃ S, S = (nI l).mergeSort fun x y => decide (x ≤ y) := ⟨_, rfl⟩
  rw [← hS]
  have hp : S.Perm (nI l) := by rw [hS]; exact List.mergeSort_perm _ _
  have hs : S.Pairwise (· ≤ ·) := by
    rw [hS]
    have := List.pairwise_mergeSort (le := fun (x y : Int) => decide (x ≤ y)) (fun a b c h1 h2 => by simp at h1 h2 ⊢; omega) (fun a b => by simp; omega) (nI l)
    exact this.imp fun h => by simpa using h
  have hn : S.Nodup := hp.nodup_iff.2 (by
    unfold nI List.Nodup
    rw [List.pairwise_map]
    exact List.Pairwise.imp (fun hne e => hne (by omega)) h)
  refine ⟨?_, fun x => hp.mem_iff⟩
  unfold RiseI
  have := hs.and hn
  exact this.imp fun h => by omega

end Go.Proofs.Ytneehdjaaofjaaa
