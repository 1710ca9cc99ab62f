/- List: all numbers of all runs. -/
import Derived.Test.YtpgefmhjhiemkaaJ4
import Derived.OwnWalk
namespace Go.Proofs.Ytpgefmhjhiemkaa
open Go.RowKit
theorem seqI_snoc (a : Int) (n : Nat) : seqI a (n + 1) = seqI a n ++ [a + n] := by
  unfold seqI
  rw [List.range_succ, List.map_append]
  rfl
/-- Numbers of the call's own. -/
def OwI (base : Nat) (W : World) (v : Value) (l : List Int) : Prop := W.ownsRow base 3 1 v l.length (intsV l)
theorem OwI.ne {base b : Nat} {W : World} {v : Value} {l : List Int} {cs : Array Value} {t : TypeId} {fz : Nat × Nat} (h : OwI base W v l) (hb : W.heap[b]? = some (.cells cs t fz)) (ht : t ≠ 3) : some b ≠ v.ownBlock := by
  intro e
  rcases h.2 with ⟨rfl, _⟩ | ⟨g, cap, cur, rfl, _, hg, _⟩
  · cases e
  · injection e with e
    have e : b = g := e
    subst e
    rw [hb] at hg
    injection hg with hg
    injection hg with _ h2 _
    exact ht h2
/-- The outer loop: the first q runs are written out. -/
def LsRel (S : List (Int × Int)) (w : World) (o i : Value) (wr : World) : Prop :=
  ∃ q : Nat, q ≤ S.length ∧ i = .int .i64 q ∧ OwI w.heap.size wr o (els (S.take q)) ∧ w.grownBy wr none
/-- The inner loop: t numbers of the run x are, too. -/
def LiRel (L : List Int) (x1 x2 : Int) (b : Nat) (w : World) (o z : Value) (wr : World) : Prop :=
  ∃ t : Nat, x1 + t ≤ x2 + 1 ∧ z = .int .i64 (x1 + t) ∧ OwI w.heap.size wr o (L ++ seqI x1 t) ∧ w.grownBy wr none ∧ wr.heap[b]? = some (.cells (spC (x1, x2)) 47 (0, 0))
set_option maxRecDepth 100000 in
set_option maxHeartbeats 4000000 in
theorem List13 (F : Nat → Prop) (o : Option Nat) (E : List Int) (W : World) (h : SetP W F o E) :
    Calls Try.prog 16 #[ptrV o] W fun e w' => RetInts W none E e w' := by
  have HLn := Lib.hid (Len13 F o E W h)
  obtain ⟨A, c, S, h1, rfl, h3, h4, h5, h6, _, hall⟩ := all_any h
  obtain ⟨p, hp⟩ : ∃ p, p = ptrV o := ⟨_, rfl⟩
  rw [← hp] at hall HLn ⊢
  have HA := Lib.hid hall
  have HOK := Lib.hid h1
  have HIN := Lib.hid h4
  have HS := Lib.hid h3
  have hsh := els_short h1 h4
  obtain ⟨N, hN⟩ : ∃ N, N = els S := ⟨_, rfl⟩
  rw [← hN] at hsh HLn ⊢
  have HNN := Lib.hid hN
  obtain ⟨i0, hi, hz0, hz1, hz2⟩ := info_parts infoInt
  have HI := Lib.hid hi
  have HZ0 := Lib.hid hz0
  have HZ1 := Lib.hid hz1
  have HZ2 := Lib.hid hz2
  clear hall h1 h3 h4 h hp hN hi hz0 hz1 hz2
  go_enter Try.func16, Try.ntmps16
  go_wp2_with fail
  refine HLn.out.mono ?_
  rintro e w1 ⟨rfl, hg⟩
  have HG1 := Lib.hid hg
  have hs1 := hg.size
  clear hg
  go_wp2_with (at_make; refine wpList_make_own _ rfl _ _ 22 rfl W.heap.size 3 i0 (.int .i64 0) 1 Try.underlying22 HI.out HZ0.out HZ1.out _ _ _ N.length rfl rfl (by omega) (by rw [HZ2.out]; omega) (by unfold maxLen; omega) hs1 ?_; intro w2 ho hg2; have HG2 := Lib.hid (grownBy_trans HG1.out hg2); have HO2 := Lib.hid ho; clear ho hg2)
  refine (HA.out _ HG2.out).mono ?_
  rintro e w3 ⟨rfl, rfl⟩
  go_wp2_with fail
  go_loopw [3, 13] (fun o i wr => LsRel S W o i wr) (fun _ i _ => S.length - (intOf i).toNat)
  case atStart => exact ⟨0, Nat.zero_le _, rfl, by simpa [OwI, els, intsV] using HO2.out, HG2.out⟩
  case round =>
    obtain ⟨q, hq, rfl, ho, hg⟩ := hrel
    have HG := Lib.hid hg
    have HO := Lib.hid ho
    have hsz := hg.size
    have hLb : (els (S.take q)).length ≤ 1000001 := by
      have := els_take_le S q
      have := HNN.out
      subst this
      omega
    clear hg ho
    by_cases hlt : q < S.length
    · have hx := List.getElem?_eq_getElem hlt
      generalize S[q] = x at hx
      obtain ⟨ad, rfl⟩ := HS.out.some_ hlt
      obtain ⟨c0, c1⟩ := sp_cells (HS.out.keep HG.out) hx
      have hx1 := HOK.out.le hx
      obtain ⟨h10, h20⟩ := HIN.out x (List.mem_of_getElem? hx)
      have HX := Lib.hid (els_take hx)
      obtain ⟨L, hL⟩ : ∃ L, L = els (S.take q) := ⟨_, rfl⟩
      rw [← hL] at HO HX hLb
      clear hx hL
      obtain ⟨x1, x2⟩ := x
      simp only at c0 c1 hx1 h10 h20 HX
      obtain ⟨w5, hw5⟩ : ∃ x, x = wr := ⟨_, rfl⟩
      subst hw5
      have HB := Lib.hid (heap_alloc_new w5 (.cells (spC (x1, x2)) 47))
      go_wp2_with fail
      go_loopw [3, 6] (fun o z wi => LiRel L x1 x2 w5.heap.size W o z wi) (fun _ z _ => (x2 + 1 - intOf z).toNat)
      case atStart => exact ⟨0, by omega, by simp, by simpa [seqI, OwI, intsV] using World.ownsRow.alloc HO.out _, by (repeat (first | with_reducible exact grownBy_refl _ _ | with_reducible assumption | with_reducible refine World.grownBy.gr_drew ?_ | with_reducible refine World.grownBy.gr_set ?_ (by simp) _ | with_reducible refine gr_alloc ?_ _)); exact HG.out, HB.out⟩
      case round =>
        obtain ⟨t, ht, rfl, ho, hg, hbx⟩ := hrel
        have HGi := Lib.hid hg
        have HOi := Lib.hid ho
        have HBi := Lib.hid hbx
        have hszi := hg.size
        obtain ⟨d0, d1⟩ := box2 hbx
        simp only at d0 d1
        have hlt2 := lt_of_heap hbx
        clear hg ho hbx c0 c1
        by_cases hle : x1 + t ≤ x2
        · have HSN := Lib.hid (seqI_snoc x1 t)
          have hll : (L ++ seqI x1 t).length ≤ 3000000 := by rw [List.length_append, seqI_len]; omega
          go_wp2_with (at_builtin; go_must (refine app_int rfl (.tmp 25) (.tmp 27) rfl W.heap.size u3 _ (L ++ seqI x1 t) rfl (HOi.out.alloc _) wr.heap.size (x1 + t) _ rfl (heap_alloc_new wr (.cells #[.int .i64 (x1 + t)] 3)) (by omega) (by simp only [World.size_alloc]; omega) ?_; intro v3 w3 ho3 hg3; have HG3 := Lib.hid (gr_own (gr_alloc HGi.out _) hg3 (own_is HOi.out)); have HO3 := Lib.hid ho3; have HB3 := Lib.hid hg3; clear ho3 hg3))
          go_roundw
          case rel => exact ⟨t + 1, by omega, by go_num, by rw [HSN.out, ← List.append_assoc]; unfold OwI; rw [List.length_append]; exact HO3.out, HG3.out, by rw [HB3.out.block _ (by simp; omega) (HOi.out.ne HBi.out (by decide)), Below.heap_alloc _ _ _ hlt2]; exact HBi.out⟩
          case measure => simp [intOf]; omega
        · have HE := Lib.hid (show (x2 - x1 + 1).toNat = t by omega)
          go_wp2_with fail
          go_roundw
          case rel => exact ⟨q + 1, by omega, by go_num, by rw [HX.out, HE.out]; exact HOi.out, HGi.out⟩
          case measure => simp [intOf]; omega
    · obtain rfl : q = S.length := by omega
      have HE := Lib.hid (show els (S.take S.length) = N by rw [HNN.out, List.take_length])
      rw [HE.out] at HO
      go_wp2_with fail
      go_ret
      exact RetInts.own HO.out (Nat.le_refl _) HG.out

end Go.Proofs.Ytpgefmhjhiemkaa
