/- without, Minus. -/
import Derived.Test.YtpgefmhjhiemkaaJ9
namespace Go.Proofs.Ytpgefmhjhiemkaa
open Go.RowKit
/-- Where the outer loop stands. -/
def WoRel (A B : List (Int × Int)) (W : World) (b l i : Value) (wr : World) : Prop :=
  ∃ (q s d : Nat) (Q : Option Addr) (out : List (Int × Int)), i = .int .i64 q ∧ q ≤ A.length ∧ b = .slice Q (B.drop s).length d ∧ (B.drop s).length ≤ d ∧ SpnAt W Q (B.drop s) ∧ OwS W.heap.size wr l out ∧ W.grownBy wr none ∧ WoP A B q s out
/-- Where the inner loop stands: bx is the run's box, D what is cut out, T all that will be. -/
def WiRel3 (D T : List (Int × Int)) (x2 : Int) (bx : Nat) (W : World) (l i : Value) (wr : World) : Prop :=
  ∃ (k : Nat) (x1 : Int) (out : List (Int × Int)), i = .int .i64 k ∧ k ≤ D.length ∧ out ++ cutX x2 x1 (D.drop k) = T ∧ 0 ≤ x1 ∧ x1 ≤ 1000001 ∧ OwS W.heap.size wr l out ∧ (∀ g, l.ownBlock = some g → g ≠ bx) ∧ W.grownBy wr none ∧ wr.heap[bx]? = some (.cells (spC (x1, x2)) 47 (0, 0))
theorem spn_map {w : World} {Q : Option Addr} {S : List (Int × Int)} (h : SpnAt w Q S) (k : Nat) : SpnAt w (Q.map (·.add (k * 2))) (S.drop k) := by
  cases Q with
  | none =>
    rcases h with rfl | ⟨_, e, _⟩
    · exact .inl (by simp)
    · cases e
  | some ad => exact spn_drop h k
theorem box_set {w : World} {b : Nat} {x1 x2 : Int} (h : w.heap[b]? = some (.cells (spC (x1, x2)) 47 (0, 0))) (y : Int) : (w.setCell ⟨b, 0, none⟩ (.int .i64 y)).heap[b]? = some (.cells (spC (y, x2)) 47 (0, 0)) := by
  simp [World.setCell, Array.getElem?_modify, h, spC]
theorem cut_nil (x2 x1 : Int) : cutX x2 x1 [] = if x1 ≤ x2 then [(x1, x2)] else [] := rfl
theorem cut_cons (x2 x1 : Int) (y : Int × Int) (r : List (Int × Int)) : cutX x2 x1 (y :: r) = if x2 < y.1 then (if x1 ≤ x2 then [(x1, x2)] else []) else (if x1 < y.1 then [(x1, y.1 - 1)] else []) ++ cutX x2 (y.2 + 1) r := rfl
theorem two_new0 (W : World) (o1 o2 : Obj) : ((W.alloc o1).alloc o2).heap[W.heap.size + 1]? = some o2 := by
  have h := heap_alloc_new (W.alloc o1) o2
  rwa [show (W.alloc o1).heap.size = W.heap.size + 1 by simp] at h
set_option maxRecDepth 100000 in
set_option maxHeartbeats 4000000 in
theorem without_any (P Q : Option Addr) (c d : Nat) (A B : List (Int × Int)) (W : World) (hP : SpnAt W P A) (hQ : SpnAt W Q B) (hd : B.length ≤ d) (oa : SpOk A) (ob : SpOk B) (ia : SpIn A) (ib : SpIn B) :
    Calls Try.prog 36 #[.slice P A.length c, .slice Q B.length d] W fun e w' => ∃ v L, e = .returned v ∧ OwS W.heap.size w' v L ∧ W.grownBy w' none ∧ SpOk L ∧ SpIn L ∧ ∀ z, z ∈ els L ↔ z ∈ els A ∧ z ∉ els B := by
  have HP := Lib.hid hP
  have HQ := Lib.hid hQ
  have HOA := Lib.hid oa
  have HOB := Lib.hid ob
  have HIA := Lib.hid ia
  have HIB := Lib.hid ib
  have hla := sp_short oa ia
  have hlb := sp_short ob ib
  clear hP hQ oa ob ia ib
  go_enter Try.func36, Try.ntmps36
  go_wp2_with fail
  go_loopw [1, 5, 12] (fun b l i wr => WoRel A B W b l i wr) (fun _ _ i _ => A.length - (intOf i).toNat)
  case atStart => exact ⟨0, 0, d, Q, [], rfl, Nat.zero_le _, rfl, hd, HQ.out, OwS.nil _ _, grownBy_refl _ _, WoP.first A B⟩
  case round =>
    obtain ⟨q, s, d1, Q1, out, rfl, hq, rfl, hd1, hQ1, ho, hg, hw⟩ := hrel
    have HW := Lib.hid hw
    have HO := Lib.hid ho
    have HG := Lib.hid hg
    have HQ1 := Lib.hid hQ1
    have hsz := hg.size
    have hsB := hw.le
    clear hw ho hg hQ1
    by_cases hlt : q < A.length
    · have hx := List.getElem?_eq_getElem hlt
      generalize A[q] = x at hx
      obtain ⟨ad, rfl⟩ := HP.out.some_ hlt
      obtain ⟨e0, e1⟩ := sp_cells (HP.out.keep HG.out) hx
      obtain ⟨hx0, hx1⟩ := HIA.out x (List.mem_of_getElem? hx)
      have hxx := HOA.out.le hx
      have HX := Lib.hid hx
      obtain ⟨w5, hw5⟩ : ∃ y, y = wr := ⟨_, rfl⟩
      subst hw5
      have HBX := Lib.hid (heap_alloc_new w5 (.cells (spC x) 47))
      obtain ⟨m, hm⟩ : ∃ m, m = (B.drop s).length := ⟨_, rfl⟩
      rw [← hm] at hd1 ⊢
      have hmb : m ≤ 1000001 := by rw [hm, List.length_drop]; omega
      have HM := Lib.hid hm
      clear hx hm
      go_wp2_with fail
      refine (find_any Q1 m d1 (B.drop s) x.1 _ HM.out (HQ1.out.keep (by (repeat (first | with_reducible exact grownBy_refl _ _ | with_reducible assumption | with_reducible refine World.grownBy.gr_drew ?_ | with_reducible refine World.grownBy.gr_set ?_ (by simp) _ | with_reducible refine gr_alloc ?_ _)); exact HG.out)) (HOB.out.drop s) (by omega)).mono ?_
      rintro e w6 ⟨i, rfl, hF, hg⟩
      have HG6 := Lib.hid (grownBy_trans (show W.grownBy (w5.alloc _) none by (repeat (first | with_reducible exact grownBy_refl _ _ | with_reducible assumption | with_reducible refine World.grownBy.gr_drew ?_ | with_reducible refine World.grownBy.gr_set ?_ (by simp) _ | with_reducible refine gr_alloc ?_ _)); exact HG.out) hg)
      have hB6 := (hg.block w5.heap.size (by simp) (by simp)).trans HBX.out
      have him := hF.le
      rw [← HM.out] at him
      have HFN := Lib.hid hF
      have hGG := hg.size
      simp only [World.size_alloc] at hGG
      obtain ⟨d0, d1'⟩ := box2 hB6
      have HB6 := Lib.hid hB6
      have HO6 := Lib.hid (HO.out.gr (grownBy_trans (show w5.grownBy (w5.alloc _) none by repeat (first | with_reducible exact grownBy_refl _ _ | with_reducible assumption | with_reducible refine World.grownBy.gr_drew ?_ | with_reducible refine World.grownBy.gr_set ?_ (by simp) _ | with_reducible refine gr_alloc ?_ _)) hg))
      obtain ⟨Q2, hQ2⟩ : ∃ Q2, (if d1 = i then Q1 else Q1.map (·.add (i * 2))) = Q2 := ⟨_, rfl⟩
      have HSTEP := Lib.hid (HW.out.step HOA.out HIA.out HOB.out HX.out hF)
      obtain ⟨D, hD⟩ : ∃ D, D = B.drop (s + i) := ⟨_, rfl⟩
      have HDD := Lib.hid hD
      rw [← hD] at HSTEP
      have HQ2 := Lib.hid (show SpnAt W Q2 D by
        rw [← hQ2, hD, ← List.drop_drop]
        split
        · rename_i e
          rw [List.drop_eq_nil_of_le (show (B.drop s).length ≤ i by rw [← HM.out]; omega)]
          exact .inl rfl
        · exact spn_map HQ1.out i)
      have hDl : D.length = m - i := by rw [hD, ← List.drop_drop, List.length_drop, ← HM.out]
      have HDO := Lib.hid (show SpOk D by rw [hD]; exact HOB.out.drop _)
      have HDI := Lib.hid (show SpIn D by rw [hD]; exact fun p hp => HIB.out p (List.mem_of_mem_drop hp))
      obtain ⟨T, hT⟩ : ∃ T, T = out ++ cutX x.2 x.1 D := ⟨_, rfl⟩
      rw [← hT] at HSTEP
      have HTT := Lib.hid hT
      have HTL := Lib.hid (sp_short HSTEP.out.ok HSTEP.out.inn)
      have HDL := Lib.hid hDl
      obtain ⟨x1, x2⟩ := x
      simp only at d0 d1' hx0 hx1 hxx HB6 HTT HX HFN e0 e1
      have hOlt := HO.out.lt
      have HNE := Lib.hid (show ∀ g, u5.ownBlock = some g → g ≠ w5.heap.size from fun g hg e => by have := (hOlt g hg).2; omega)
      clear hF hg hB6 hD hDl hT hOlt
      have hmi : m - i = D.length := HDL.out.symm
      have hDd : D.length ≤ d1 - i := by rw [HDL.out]; omega
      have hDb : D.length ≤ 1000001 := by rw [HDL.out]; omega
      go_wp2_with fail
      clear hQ2 hmi
      go_loopw [5, 24] (fun l i wr => WiRel3 D T x2 w5.heap.size W l i wr) (fun _ i _ => D.length - (intOf i).toNat)
      case atStart => exact ⟨0, x1, out, rfl, Nat.zero_le _, by rw [List.drop_zero, HTT.out], hx0, by omega, HO6.out, HNE.out, HG6.out, HB6.out⟩
      case round =>
        clear e0 e1 d0 d1' HO6 HG6 HB6 HNE hx0 hxx HTT HFN HX HBX
        obtain ⟨k, z1, ot, rfl, hk, hT, hz0, hz1, ho, hne, hg, hb⟩ := hrel
        have HO7 := Lib.hid ho
        have HNE7 := Lib.hid hne
        have HG7 := Lib.hid hg
        have HB7 := Lib.hid hb
        have HT7 := Lib.hid hT
        have hol := Lib.hid ho.lt
        obtain ⟨d0, d1'⟩ := box2 hb
        simp only at d0 d1'
        have hbl := lt_of_heap hb
        have hsz7 := hg.size
        have hotl : ot.length ≤ 1000001 := by have := HTL.out; rw [← hT, List.length_append] at this; omega
        clear ho hne hg hb hT
        by_cases hlt2 : k < D.length
        · have hy := List.getElem?_eq_getElem hlt2
          have hdd : D.drop k = D[k] :: D.drop (k + 1) := List.drop_eq_getElem_cons hlt2
          rw [hdd, cut_cons] at HT7
          clear hdd
          generalize D[k] = y at hy HT7
          obtain ⟨qd, rfl⟩ := HQ2.out.some_ hlt2
          obtain ⟨f0, f1⟩ := sp_cells (HQ2.out.keep HG7.out) hy
          obtain ⟨hy0, hy1⟩ := HDI.out y (List.mem_of_getElem? hy)
          have hyy := HDO.out.le hy
          obtain ⟨y1, y2⟩ := y
          simp only at f0 f1 hy0 hy1 hyy HT7
          clear hy
          have HBY := Lib.hid (heap_alloc_new wr (.cells (spC (y1, y2)) 47))
          have HBX2 := Lib.hid ((Below.heap_alloc wr (.cells (spC (y1, y2)) 47) _ hbl).trans HB7.out)
          by_cases hbr : x2 < y1
          · rw [if_pos hbr] at HT7
            by_cases hz : z1 ≤ x2
            · rw [if_pos hz] at HT7
              go_wp2_with (at_builtin; go_must (refine app_spn2 rfl (.tmp 57) (.tmp 59) rfl W.heap.size u5 ot (z1, x2) rfl (HO7.out.gr (gr_alloc (gr_alloc (grownBy_refl _ _) _) _)) (wr.heap.size + 1) (0, 0) rfl (two_new0 _ _ _) (by omega) (by simp; omega) ?_; intro v8 w8 ho8 hg8 _; have HG8 := Lib.hid (gr_own (gr_alloc (gr_alloc HG7.out _) _) hg8 (own_is HO7.out)); have HO8 := Lib.hid ho8; clear ho8 hg8))
              go_roundw
              case rel => exact ⟨q + 1, s + i, d1 - i, some qd, T, by go_num, by omega, by rw [← HDD.out], by rw [← HDD.out]; exact hDd, by rw [← HDD.out]; exact HQ2.out, by rw [← HT7.out]; exact HO8.out, HG8.out, HSTEP.out⟩
              case measure => simp [intOf]; omega
            · rw [if_neg hz, List.append_nil] at HT7
              go_wp2_with fail
              go_roundw
              case rel => exact ⟨q + 1, s + i, d1 - i, some qd, T, by go_num, by omega, by rw [← HDD.out], by rw [← HDD.out]; exact hDd, by rw [← HDD.out]; exact HQ2.out, by rw [← HT7.out]; exact HO7.out.gr (by repeat (first | with_reducible exact grownBy_refl _ _ | with_reducible assumption | with_reducible refine World.grownBy.gr_drew ?_ | with_reducible refine World.grownBy.gr_set ?_ (by simp) _ | with_reducible refine gr_alloc ?_ _)), by (repeat (first | with_reducible exact grownBy_refl _ _ | with_reducible assumption | with_reducible refine World.grownBy.gr_drew ?_ | with_reducible refine World.grownBy.gr_set ?_ (by simp) _ | with_reducible refine gr_alloc ?_ _)); exact HG7.out, HSTEP.out⟩
              case measure => simp [intOf]; omega
          · rw [if_neg hbr] at HT7
            by_cases hl : z1 < y1
            · rw [if_pos hl, ← List.append_assoc] at HT7
              go_wp2_with (at_builtin; go_must (refine app_spn2 rfl (.tmp 38) (.tmp 45) rfl W.heap.size u5 ot (z1, y1 - 1) rfl (HO7.out.gr (gr_alloc (gr_alloc (grownBy_refl _ _) _) _)) (wr.heap.size + 1) (0, 0) rfl (two_new0 _ _ _) (by omega) (by simp; omega) ?_; intro v8 w8 ho8 hg8 hn8; have HG8 := Lib.hid (gr_own (gr_alloc (gr_alloc HG7.out _) _) hg8 (own_is HO7.out)); have HO8 := Lib.hid ho8; have hx8 := (hg8.block w5.heap.size (by simp; omega) (fun e => HNE7.out _ e.symm rfl)).trans ((Below.heap_alloc _ _ _ (by simp; omega)).trans HBX2.out); have hy8 := (hg8.block wr.heap.size (by simp; omega) (fun e => absurd (hol.out _ e.symm).2 (Nat.lt_irrefl _))).trans ((Below.heap_alloc _ _ _ (by simp)).trans HBY.out); have HX8 := Lib.hid hx8; have HN8 := Lib.hid (show ∀ g, v8.ownBlock = some g → g ≠ w5.heap.size from fun g hg => (hn8 g hg).elim (fun h => HNE7.out g h) (fun h e => by simp at h; omega)); obtain ⟨i0, i1⟩ := box2 hx8; obtain ⟨j0, j1⟩ := box2 hy8; have ifz : w8.frozen? ⟨w5.heap.size, 0, none⟩ = false := (by simp [World.frozen?, hx8]); simp only at i0 i1 j0 j1; clear ho8 hg8 hx8 hy8 hn8 d0 d1'))
              go_roundw
              case rel => exact ⟨k + 1, y2 + 1, ot ++ [(z1, y1 - 1)], by go_num, by omega, HT7.out, by omega, by omega, HO8.out.at_ (fun g hg => Below.heap_setCell _ _ _ _ (HN8.out g hg)), HN8.out, HG8.out.gr_set (by show _ ≤ w5.heap.size; omega) _, box_set HX8.out _⟩
              case measure => simp [intOf]; omega
            · rw [if_neg hl, List.nil_append] at HT7
              have ifz : wr.frozen? ⟨w5.heap.size, 0, none⟩ = false := by simp [World.frozen?, HB7.out]
              go_wp2_with fail
              go_roundw
              case rel => exact ⟨k + 1, y2 + 1, ot, by go_num, by omega, HT7.out, by omega, by omega, (HO7.out.at_ (fun g hg => Below.heap_setCell _ _ _ _ (HNE7.out g hg))).gr (gr_alloc (grownBy_refl _ _) _), HNE7.out, gr_alloc (HG7.out.gr_set (by show _ ≤ w5.heap.size; omega) _) _, (Below.heap_alloc _ _ _ (by simpa using hbl)).trans (box_set HB7.out _)⟩
              case measure => simp [intOf]; omega
        · obtain rfl : k = D.length := by omega
          rw [List.drop_length, cut_nil] at HT7
          by_cases hz : z1 ≤ x2
          · rw [if_pos hz] at HT7
            go_wp2_with (at_builtin; go_must (refine app_spn2 rfl (.tmp 57) (.tmp 59) rfl W.heap.size u5 ot (z1, x2) rfl (HO7.out.gr (gr_alloc (grownBy_refl _ _) _)) wr.heap.size (0, 0) rfl (heap_alloc_new wr _) (by omega) (by simp; omega) ?_; intro v8 w8 ho8 hg8 _; have HG8 := Lib.hid (gr_own (gr_alloc HG7.out _) hg8 (own_is HO7.out)); have HO8 := Lib.hid ho8; clear ho8 hg8))
            go_roundw
            case rel => exact ⟨q + 1, s + i, d1 - i, Q2, T, by go_num, by omega, by rw [← HDD.out], by rw [← HDD.out]; exact hDd, by rw [← HDD.out]; exact HQ2.out, by rw [← HT7.out]; exact HO8.out, HG8.out, HSTEP.out⟩
            case measure => simp [intOf]; omega
          · rw [if_neg hz, List.append_nil] at HT7
            go_wp2_with fail
            go_roundw
            case rel => exact ⟨q + 1, s + i, d1 - i, Q2, T, by go_num, by omega, by rw [← HDD.out], by rw [← HDD.out]; exact hDd, by rw [← HDD.out]; exact HQ2.out, by rw [← HT7.out]; exact HO7.out, HG7.out, HSTEP.out⟩
            case measure => simp [intOf]; omega
    · obtain rfl : q = A.length := by omega
      have HE := Lib.hid (HW.out.all)
      rw [List.take_length] at HE
      go_wp2_with fail
      go_ret
      exact ⟨_, out, rfl, HO.out, HG.out, HW.out.ok, HW.out.inn, HE.out⟩
set_option maxRecDepth 100000 in
set_option maxHeartbeats 4000000 in
theorem Minus13 (F G : Nat → Prop) (o q : Option Nat) (E D : List Int) (W : World) (h : SetP W F o E) (k : SetP W G q D) :
    Calls Try.prog 23 #[ptrV o, ptrV q] W fun e w' => ∃ m F', e = .returned (.pointer (some ⟨m, 0, none⟩)) ∧ SetAt w' F' m (minusI E D) ∧ W.grownBy w' none ∧ ∀ k, F' k → W.heap.size ≤ k := by
  have HOK := Lib.hid (h.ok.minus (D := D))
  obtain ⟨A, c, S, h1, rfl, h3, h4, h5, h6, _, hall⟩ := all_any h
  obtain ⟨B, d, T, k1, rfl, k3, k4, k5, k6, _, kall⟩ := all_any k
  obtain ⟨p, hp⟩ : ∃ p, p = ptrV o := ⟨_, rfl⟩
  obtain ⟨p', hp'⟩ : ∃ p', p' = ptrV q := ⟨_, rfl⟩
  rw [← hp] at hall ⊢
  rw [← hp'] at kall ⊢
  have HA := Lib.hid hall
  have HB := Lib.hid kall
  have HC := Lib.hid (without_any A B c d S T W h3 k3 k6 h1 k1 h4 k4)
  obtain ⟨M, hM⟩ : ∃ M, M = minusI (els S) (els T) := ⟨_, rfl⟩
  have HME := Lib.hid (show ∀ z, z ∈ M ↔ z ∈ els S ∧ z ∉ els T from fun z => by rw [hM, minusI_mem])
  rw [← hM] at HOK ⊢
  clear hall kall h k h1 h3 h4 k1 k3 k4 hp hp' hM h5 k5 h6 k6
  go_enter Try.func23, Try.ntmps23
  go_wp2_with fail
  refine (HA.out _ (grownBy_refl _ _)).mono ?_
  rintro e w1 ⟨rfl, rfl⟩
  go_wp2_with fail
  refine (HB.out _ (grownBy_refl _ _)).mono ?_
  rintro e w1 ⟨rfl, rfl⟩
  go_wp2_with fail
  refine HC.out.mono ?_
  rintro e w2 ⟨v, L, rfl, ho, hg, hL, hin, hz⟩
  obtain ⟨A3, c3, hv, _, _, _⟩ := ho.spn
  subst hv
  have HO := Lib.hid ho
  have HG := Lib.hid hg
  have HL := Lib.hid hL
  have hsz := hg.size
  have HE := Lib.hid (show els L = M from SetOk.ext ⟨els_rise hL, hin.els⟩ HOK.out fun z => by rw [hz, HME.out])
  clear ho hg hL hin hz
  go_wp2_with fail
  obtain ⟨v, hv⟩ : ∃ v, v = Value.slice A3 L.length c3 := ⟨_, rfl⟩
  rw [← hv] at HO ⊢
  go_ret
  have hlt : ∀ g, v.ownBlock = some g → W.heap.size ≤ g ∧ g < w2.heap.size := fun g hg => HO.out.lt g hg
  refine ⟨w2.heap.size, fun k => k = w2.heap.size ∨ v.ownBlock = some k, rfl, ⟨.inl rfl, fun k hk => ?_, HOK.out, v, L, HL.out, HE.out, heap_alloc_new _ _, (HO.out.gr (gr_alloc (grownBy_refl _ _) _)).low (Nat.zero_le _), fun g hg => ⟨.inr hg, by have := (hlt g hg).2; omega⟩⟩, gr_alloc HG.out _, fun k hk => ?_⟩
  · rcases hk with rfl | hk
    · simp
    · have := (hlt k hk).2
      simp
      omega
  · rcases hk with rfl | hk
    · exact hsz
    · exact (hlt k hk).1

end Go.Proofs.Ytpgefmhjhiemkaa
