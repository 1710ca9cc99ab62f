/- Spans: the ends of all runs. -/
import Derived.Test.YtpgefmhjhiemkaaJ5
namespace Go.Proofs.Ytpgefmhjhiemkaa
open Go.RowKit
theorem app_ints {w : World} {ops : Array Oper} {rest : List Oper} {o : Oper} {a : Act} {Q : Exit → Act → World → Prop} (hgd : o.guard = none) (s x : Operand)
    (ho : o.op = .call { callee := .builtin .append, args := #[s, x], argTypes := #[22, 22] })
    (base : Nat) (v : Value) (L D : List Int) (hs : a.eval s = v) (hown : OwI base w v L) (b : Nat) (fz : Nat × Nat) (n : Nat) (cs : Array Value)
    (hx : a.eval x = .slice (some ⟨b, 0, none⟩) n n) (hb : w.heap[b]? = some (.cells cs 3 fz)) (hcs : cs.toList = intsV D) (hnD : n = D.length) (hn : L.length + D.length ≤ 1000000000000) (hbase : base ≤ w.heap.size)
    (h : ∀ v' w', OwI base w' v' (L ++ D) → w.grownBy w' v.ownBlock → wpList Try.prog ops Q rest (a.put o.dst v') w') : wpList Try.prog ops Q (o :: rest) a w := by
  obtain ⟨i0, hi, hz0, hz1, hz2⟩ := info_parts infoInt
  subst hnD
  refine wpList_append_own w hgd s x 22 ho base 3 i0 _ 1 8 Try.underlying22 hi hz0 hz1 hz2 rfl (by decide) v L.length (intsV L) hs hown ⟨b, 0, none⟩ D.length D.length (intsV D) hx (by rw [intsV_length, Nat.mul_one]) ?_ (intsV_one D) ?_ ?_ hbase fun v' w' h2 h3 _ => h v' w' ?_ h3
  · intro j u hu
    rw [add_none, Nat.zero_add, cell_of_row _ _ _ _ _ _ hb, ← Array.getElem?_toList, hcs]
    exact hu
  · unfold maxLen; omega
  · omega
  · unfold OwI
    rw [intsV_append, List.length_append]
    exact h2
theorem flatI_app (a b : List (Int × Int)) : flatI (a ++ b) = flatI a ++ flatI b := by unfold flatI; rw [List.flatMap_append]
theorem flatI_take {S : List (Int × Int)} {k : Nat} {p : Int × Int} (h : S[k]? = some p) : flatI (S.take (k + 1)) = flatI (S.take k) ++ [p.1, p.2] := by
  rw [List.take_add_one, h]
  show flatI (S.take k ++ [p]) = _
  rw [flatI_app]
  rfl
/-- The ends of the first q runs are written out. -/
def SsRel (S : List (Int × Int)) (w : World) (o i : Value) (wr : World) : Prop :=
  ∃ q : Nat, q ≤ S.length ∧ i = .int .i64 q ∧ OwI w.heap.size wr o (flatI (S.take q)) ∧ w.grownBy wr none
set_option maxRecDepth 100000 in
set_option maxHeartbeats 4000000 in
theorem Spans13 (F : Nat → Prop) (o : Option Nat) (E : List Int) (W : World) (h : SetP W F o E) :
    Calls Try.prog 17 #[ptrV o] W fun e w' => RetInts W none (spG none E) e w' := by
  obtain ⟨A, c, S, h1, rfl, h3, h4, h5, h6, _, hall⟩ := all_any h
  obtain ⟨p, hp⟩ : ∃ p, p = ptrV o := ⟨_, rfl⟩
  rw [← hp] at hall ⊢
  have HA := Lib.hid hall
  have HS := Lib.hid h3
  obtain ⟨N, hN⟩ : ∃ N, N = spG none (els S) := ⟨_, rfl⟩
  rw [← hN]
  have HNN := Lib.hid (hN.trans (spG_els none h1 (fun _ _ h => by cases h)))
  obtain ⟨i0, hi, hz0, hz1, hz2⟩ := info_parts infoInt
  have HI := Lib.hid hi
  have HZ0 := Lib.hid hz0
  have HZ1 := Lib.hid hz1
  have HZ2 := Lib.hid hz2
  clear hall h1 h3 h4 h hp hN hi hz0 hz1 hz2
  go_enter Try.func17, Try.ntmps17
  go_wp2_with fail
  refine (HA.out _ (grownBy_refl _ _)).mono ?_
  rintro e w1 ⟨rfl, rfl⟩
  go_wp2_with (at_make; go_must (refine wpList_make_own _ rfl _ _ 22 rfl W.heap.size 3 i0 (.int .i64 0) 1 Try.underlying22 HI.out HZ0.out HZ1.out _ _ _ (2 * S.length) rfl (by show Value.int .i64 (2 * (S.length : Int)) = .int .i64 ((2 * S.length : Nat) : Int); simp) (by omega) (by rw [HZ2.out]; omega) (by unfold maxLen; omega) (Nat.le_refl _) ?_; intro w2 ho hg2; have HG2 := Lib.hid hg2; have HO2 := Lib.hid ho; clear ho hg2))
  refine (HA.out _ HG2.out).mono ?_
  rintro e w3 ⟨rfl, rfl⟩
  go_wp2_with fail
  go_loopw [3, 14] (fun o i wr => SsRel S W o i wr) (fun _ i _ => S.length - (intOf i).toNat)
  case atStart => exact ⟨0, Nat.zero_le _, rfl, by simpa [OwI, flatI, intsV] using HO2.out, HG2.out⟩
  case round =>
    obtain ⟨q, hq, rfl, ho, hg⟩ := hrel
    have HG := Lib.hid hg
    have HO := Lib.hid ho
    have hsz := hg.size
    have hLb : (flatI (S.take q)).length ≤ 2000002 := by
      rw [flatI_len, List.length_take]
      omega
    clear hg ho
    by_cases hlt : q < S.length
    · have hx := List.getElem?_eq_getElem hlt
      generalize S[q] = x at hx
      obtain ⟨ad, rfl⟩ := HS.out.some_ hlt
      obtain ⟨c0, c1⟩ := sp_cells (HS.out.keep HG.out) hx
      have HX := Lib.hid (flatI_take hx)
      obtain ⟨L, hL⟩ : ∃ L, L = flatI (S.take q) := ⟨_, rfl⟩
      rw [← hL] at HO HX hLb
      obtain ⟨x1, x2⟩ := x
      simp only at c0 c1 HX
      clear hx hL
      go_wp2_with (at_builtin; go_must (refine app_ints rfl (.tmp 18) (.tmp 23) rfl W.heap.size u3 L [x1, x2] rfl ((HO.out.alloc _).alloc _) (wr.heap.size + 1) _ 2 _ rfl (by have h := heap_alloc_new (wr.alloc (.cells #[.int .i64 x1, .int .i64 x2] 47)) (.cells #[.int .i64 x1, .int .i64 x2] 3); rw [show (wr.alloc (.cells #[.int .i64 x1, .int .i64 x2] 47)).heap.size = wr.heap.size + 1 by simp] at h; exact h) rfl rfl (by simp; omega) (by simp only [World.size_alloc]; omega) ?_; intro v3 w3 ho3 hg3; have HG3 := Lib.hid (gr_own (gr_alloc (gr_alloc HG.out _) _) hg3 (own_is HO.out)); have HO3 := Lib.hid ho3; clear ho3 hg3))
      go_roundw
      case rel => exact ⟨q + 1, by omega, by go_num, by rw [HX.out]; exact HO3.out, HG3.out⟩
      case measure => simp [intOf]; omega
    · obtain rfl : q = S.length := by omega
      have HE := Lib.hid (show flatI (S.take S.length) = N by rw [HNN.out, List.take_length])
      rw [HE.out] at HO
      go_wp2_with fail
      go_ret
      exact RetInts.own HO.out (Nat.le_refl _) HG.out

end Go.Proofs.Ytpgefmhjhiemkaa
