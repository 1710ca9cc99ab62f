/- norm: the iterator of offsets, over arrays of numbers, without records. -/
import Derived.Test.YtjfbkogjgjmndaaDoorNh
import Derived.OwnWalkIn
namespace Go.Proofs.YtjfbkogjgjmndaaDoor
open Go.RowKit
open Go.Shelf
attribute [local go_sem] Oper.semAt_some
/-- What a round's body keeps: all cells but slices' boxes and rows of ints, these but for bn's and the first block. -/
def KpT (bn : Nat) (A B : World) : Prop := A.heap.size ≤ B.heap.size ∧ ∀ (g : Nat) (cs : Array Value) (t : TypeId) (fr : Nat × Nat), A.heap[g]? = some (.cells cs t fr) → (g = bn ∨ g = 0 ∨ (t ≠ 3 ∧ t ≠ 32)) → B.heap[g]? = some (.cells cs t fr)
theorem KpT.refl (bn : Nat) (A : World) : KpT bn A A := ⟨Nat.le_refl _, fun _ _ _ _ h _ => h⟩
theorem KpT.trans {bn : Nat} {A B C : World} (h : KpT bn A B) (k : KpT bn B C) : KpT bn A C := ⟨Nat.le_trans h.1 k.1, fun g cs t fr hg ht => k.2 g cs t fr (h.2 g cs t fr hg ht) ht⟩
theorem KpT.of_gr {bn : Nat} {A B : World} (g : A.grownBy B none) : KpT bn A B := ⟨g.size, fun k cs t fr h _ => (g.block k (lt_of_heap h) (by simp)).trans h⟩
theorem VarsK.kp {bn : Nat} {A B : World} (h : VarsK A) (k : KpT bn A B) : VarsK B := by
  obtain ⟨t, fr, h⟩ := h
  exact ⟨t, fr, k.2 0 _ _ _ h (.inr (.inl rfl))⟩
set_option maxRecDepth 100000 in
set_option maxHeartbeats 4000000 in
theorem offs_stops (nn : Nat) (hnn : 1 ≤ nn) (n1 k : Int) (m b c bt bn br : Nat) (hk : numK k = true) (hm : m ≤ 4096) (w : World) (hv : VarsK w)
    (hbt : w.heap[bt]? = some (.cells #[.int .i64 6, .int .i64 n1, .string ⟨#[]⟩, .slice (some ⟨b, 0, none⟩) 1 c] 26 (0, 0))) (hb : ArrAt w b k)
    (hbn : w.heap[bn]? = some (.cells #[.int .i64 (m : Int)] 3 (0, 0))) (hbr : w.heap[br]? = some (.cells #[.slice none 0 0] 37 (0, 0))) :
    SeqStopsK Fence.wide nn Tryd.prog 17 #[.pointer (some ⟨bt, 0, none⟩), .pointer (some ⟨bn, 0, none⟩), .pointer (some ⟨br, 0, none⟩)] (fun o : Nat => #[.int .i64 (o : Int), .int .i64 (nrm m (widthK k) o)]) (KpT bn)
      (fun ys => ys = List.range (m + 1)) (fun pre => ∃ q, q ≤ m + 1 ∧ pre = List.range q) (m + 1) w := fun l J Jx W hW hJ hJx hY h0 => by
  have hk6 : k ≠ 6 := by unfold numK at hk; simp at hk; omega
  have g := gr_of_below hW
  have HI := Lib.hid (innermost_ar n1 k b c hk6 W (hb.gr g))
  have HN := Lib.hid (fun (w' : World) (q : Nat) (hq : q ≤ 100000) (hv' : VarsK w') => normal_sc k m q hk (by omega) (by omega) w' hv')
  obtain ⟨c0, c1, c2, c3, _⟩ := cells4_of ((g.block _ (lt_of_heap hbt) (by simp)).trans hbt)
  have HBN := Lib.hid ((g.block _ (lt_of_heap hbn) (by simp)).trans hbn)
  have HBR := Lib.hid ((g.block _ (lt_of_heap hbr) (by simp)).trans hbr)
  have HV := Lib.hid (hv.grown g)
  have HJ := Lib.hid hJ
  have HY := Lib.hid hY
  have HJ0 := Lib.hid h0
  clear hv hbt hb hbn hbr hW g hJ hY h0 hk hk6
  unfold scV arV tV at *
  have hro : Fence.wide.round = none := rfl
  refine callsIn_of_wp Tryd.func17 rfl trivial ?_ hro
  simp only [Tryd.ntmps17, List.size_toArray, List.length_cons, List.length_nil, Nat.reduceAdd, Nat.reduceSub, Array.replicate_succ, Array.replicate_zero, List.push_toArray, List.append_toArray, List.nil_append, List.cons_append]
  gi_wp2_with (refine ⟨trivial, ?_⟩; gi_at_call 14; refine (callsIn_wide.2 HI.out).mono ?_; rintro e w1 ⟨rfl, hg1⟩; refine Hid.out ?_)
  refine Lib.hid ?_
  have HBI := Lib.hid (blk_new w1 (.cells #[.int .i64 k, .int .i64 0, .string ⟨#[]⟩, .slice none 0 0] 26))
  have HG1 := Lib.hid hg1
  clear hg1 c0 c1 c2 c3
  gi_wp2
  have hg5 := gr_alloc HG1.out (.cells #[.int .i64 k, .int .i64 0, .string ⟨#[]⟩, .slice none 0 0] 26)
  generalize (w1.alloc (.cells #[.int .i64 k, .int .i64 0, .string ⟨#[]⟩, .slice none 0 0] 26)) = W5 at *
  generalize w1.heap.size = bi at *
  have hk5 := KpT.of_gr (bn := bn) hg5
  have H5V := Lib.hid (HV.out.grown hg5)
  have H5N := Lib.hid (hk5.2 _ _ _ _ HBN.out (.inl rfl))
  have H5R := Lib.hid (hk5.2 _ _ _ _ HBR.out (.inr (.inr (by decide))))
  have H5J := Lib.hid (HJ.out [] W W5 none HJ0.out hg5 (fun r e => by cases e))
  have H5S := Lib.hid hg5.size
  clear hk5 hg5 HG1
  have hnt : ∀ q : Nat, IntKind.i64.wrap ((q : Int) + 1) = IntKind.i64.wrap ((q : Int) + 1) := fun _ => rfl
  gi_loopw [6] (fun i wr => ∃ q : Nat, q ≤ m + 1 ∧ i = .int .i64 (q : Int) ∧ J (List.range q) wr ∧ KpT bn W5 wr) (fun i _ => m + 1 - (intOf i).toNat)
  case atStart => exact ⟨0, Nat.zero_le _, rfl, H5J.out, KpT.refl _ _⟩
  case round =>
    obtain ⟨q, hq, rfl, hJq, hkp⟩ := hrel
    obtain ⟨d0, _⟩ := cell1 (hkp.2 _ _ _ _ H5N.out (.inl rfl))
    obtain ⟨d1, _⟩ := cell1 (hkp.2 _ _ _ _ H5R.out (.inr (.inr (by decide))))
    obtain ⟨e0, e1, e2, e3, _⟩ := cells4_of (hkp.2 _ _ _ _ HBI.out (.inr (.inr (by decide))))
    have HKP := Lib.hid hkp
    have HJQ := Lib.hid hJq
    clear hkp hJq hnt
    by_cases hlt : q ≤ m
    · gi_wp2_with (refine ⟨trivial, ?_⟩; gi_at_call 11; refine (callsIn_wide.2 (HN.out _ q (by omega) (H5V.out.kp HKP.out))).mono ?_; rintro e w2 ⟨rfl, hg2⟩; refine Hid.out ?_)
      refine Lib.hid ?_
      have HJ2 := Lib.hid (HJ.out (List.range q) _ w2 none HJQ.out hg2 (fun r e => by cases e))
      have HK2 := Lib.hid (HKP.out.trans (KpT.of_gr hg2))
      obtain ⟨fn, tmps, assign, body, hy, hR⟩ := HY.out (List.range q) q w2 HJ2.out (by rw [List.length_range]; omega)
      clear hg2 d0 d1 e0 e1 e2 e3
      gi_wp2
      refine hR.mono ?_
      rintro e W3 (⟨rfl, hJ3, hk3⟩ | ⟨rfl, hJx3⟩)
      · have HJ3 := Lib.hid hJ3
        have HK3 := Lib.hid (HK2.out.trans hk3)
        clear hJ3 hk3
        gi_wp2
        go_roundw
        case rel => exact ⟨q + 1, by omega, by go_num, by rw [List.range_succ]; exact HJ3.out, HK3.out⟩
        case measure => simp [intOf]; omega
      · have HJ3 := Lib.hid hJx3
        clear hJx3
        gi_wp2
        refine bodyPost_ret (results_none rfl _ _ _) rfl ?_
        exact ⟨⟨_, rfl⟩, .inr ⟨_, ⟨q + 1, by omega, rfl⟩, by rw [List.range_succ]; exact HJ3.out⟩⟩
    · obtain rfl : q = m + 1 := by omega
      gi_wp2
      go_end0
      exact ⟨⟨_, rfl⟩, .inl ⟨_, rfl, HJQ.out⟩⟩

end Go.Proofs.YtjfbkogjgjmndaaDoor
