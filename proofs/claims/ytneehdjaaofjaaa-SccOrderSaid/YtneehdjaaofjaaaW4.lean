/- The document's graphs, walked: Order. -/
import Derived.Test.YtneehdjaaofjaaaW3
namespace Go.Proofs.Ytneehdjaaofjaaa
open Go.RowKit
/-- An edge that keeps v from coming next. -/
def badE (N : Nat) (G : List Int) (D : List Bool) (v : Nat) (e : Edg) : Prop := edgeIn N e = true ∧ G[e.to.toNat]? = some (v : Int) ∧ ∃ x : Nat, G[e.fr.toNat]? = some (x : Int) ∧ x ≠ v ∧ ¬ mk D x
/-- Which groups are in the order already. -/
def DnOk (N : Nat) (O : List Int) (D : List Bool) : Prop := D.length = N ∧ ∀ b, mk D b ↔ b < N ∧ (b : Int) ∈ O
theorem DnOk.first (N : Nat) : DnOk N [] (List.replicate N false) := MkF.first N
theorem DnOk.next {N : Nat} {O : List Int} {D : List Bool} (h : DnOk N O D) {a : Nat} (ha : a < N) : DnOk N (O ++ [(a : Int)]) (D.set a true) := MkF.next h ha
theorem free_iff {N : Nat} {E : List Edg} {G O : List Int} {D : List Bool} {v : Nat} (hG : IsGr N (prs N E) G) (hD : DnOk N O D) : FreeO (prs N E) G O v ↔ ∀ (j : Nat) (e : Edg), E[j]? = some e → ¬ badE N G D v e := by
  constructor
  · rintro h j e he ⟨h1, h2, x, h3, h4, h5⟩
    have hi : 0 ≤ e.fr ∧ e.fr < (N : Int) ∧ 0 ≤ e.to ∧ e.to < (N : Int) := of_decide_eq_true h1
    have hin : (e.fr.toNat, e.to.toNat) ∈ prs N E := prs_mem.2 ⟨by omega, by omega, e, List.mem_of_getElem? he, by omega, by omega⟩
    have hx := h _ _ hin h2 (by rw [h3]; intro e'; injection e' with e'; omega) _ h3
    refine h5 ((hD.2 x).2 ⟨?_, hx⟩)
    obtain ⟨w, hw, ht⟩ := hG.2 e.fr.toNat (by omega)
    rw [hw] at h3
    injection h3 with h3
    have := ht.le
    omega
  · intro h a b hab hb ha x hx
    obtain ⟨h1, h2, e, he, e1, e2⟩ := prs_mem.1 hab
    obtain ⟨j, hj⟩ := List.getElem?_of_mem he
    obtain ⟨w, hw, ht⟩ := hG.2 a h1
    rw [hw] at hx
    injection hx with hx
    subst hx
    refine Decidable.byContradiction fun hn => h j e hj ⟨decide_eq_true (by omega), by rw [e2, Int.toNat_natCast]; exact hb, w, by rw [e1, Int.toNat_natCast]; exact hw, ?_, fun hm => hn ((hD.2 w).1 hm).2⟩
    rintro rfl
    exact ha hw
/-- The order so far. -/
def OrdP (ps : List (Nat × Nat)) (G O : List Int) : Prop := ∀ (k : Nat) (x : Int), O[k]? = some x → ∃ v : Nat, x = v ∧ NextO ps G (O.take k) v
theorem OrdP.next {ps : List (Nat × Nat)} {G O : List Int} (h : OrdP ps G O) {v : Nat} (hv : NextO ps G O v) : OrdP ps G (O ++ [(v : Int)]) := fun k x hx => by
  by_cases hk : k < O.length
  · rw [List.getElem?_append_left hk] at hx
    rw [List.take_append_of_le_length (by omega)]
    exact h k x hx
  · have hl := (List.getElem?_eq_some_iff.1 hx).1
    rw [List.length_append, List.length_singleton] at hl
    obtain rfl : k = O.length := by omega
    rw [List.getElem?_append_right (Nat.le_refl _), Nat.sub_self] at hx
    injection hx with hx
    rw [List.take_append_of_le_length (Nat.le_refl _), List.take_length]
    exact ⟨v, hx.symm, hv⟩
theorem fcnt_rep (N : Nat) : fcnt (List.replicate N false) = N := by
  unfold fcnt
  rw [List.countP_replicate]
  simp
/-- What lies in a block below r is as it was. -/
def SameB (r : Nat) (a b : World) : Prop := ∀ q, q < r → b.heap[q]? = a.heap[q]?
theorem SameB.refl (r : Nat) (a : World) : SameB r a a := fun _ _ => rfl
theorem SameB.step {r : Nat} {a b c : World} {o : Option Nat} (h : SameB r a b) (g : b.grownBy c o) (hr : r ≤ b.heap.size) (ho : ∀ q, o = some q → r ≤ q) : SameB r a c := fun q hq => (g.block q (by omega) (fun e => by have := ho q e.symm; omega)).trans (h q hq)
theorem SameB.ints {r : Nat} {a b : World} (h : SameB r a b) {A : Option Addr} {n c : Nat} {l : List Int} (hI : IntsAt a A n c l) (hr : l ≠ [] → ∀ ad, A = some ad → ad.block < r) : IntsAt b A n c l := hI.to fun hl ad e => h _ (hr hl ad e)
theorem SameB.eds {r : Nat} {a b : World} (h : SameB r a b) {A : Option Addr} {E : List Edg} (hE : EdsAt a A E) (hr : E ≠ [] → ∀ ad, A = some ad → ad.block < r) : EdsAt b A E := by
  rcases hE with h0 | ⟨ad, e, hc⟩
  · exact .inl h0
  · by_cases h0 : E = []
    · exact .inl h0
    · exact .inr ⟨ad, e, fun j x hx i u hu => (World.cell?_of_block (by rw [add_block]; exact h _ (hr h0 ad e))).trans (hc j x hx i u hu)⟩
set_option maxRecDepth 100000 in
set_option maxHeartbeats 16000000 in
theorem r15_Order_any (n : Int) (A : Option Addr) (c0 : Nat) (E : List Edg) (w : World) (hE : EdsAt w A E) (hEl : E.length ≤ 1000000) :
    Calls Try.prog 15 #[.int .i64 n, .slice A E.length c0] w fun e w' => ∃ G O, IsGr (szE n) (prs (szE n) E) G ∧ IsOr (prs (szE n) E) G O ∧ RetInts w none O e w' := by
  have HE := Lib.hid hE
  clear hE
  obtain ⟨N, hNN⟩ : ∃ N, N = szE n := ⟨_, rfl⟩
  have hN : N ≤ 20000 := by rw [hNN]; exact szE_le n
  have HGR := Lib.hid (r15_Groups_any n A c0 E w HE.out hEl)
  rw [← hNN] at HGR ⊢
  clear hNN
  obtain ⟨i0, hi, hz0, hz1, hz2⟩ := info_parts infoBool
  go_enter Try.func15, Try.ntmps15
  go_wp2_with fail
  refine HGR.out.mono ?_
  rintro e w1 ⟨G, hG, B, k, d, rfl, hI, hg, _⟩
  have HG := Lib.hid hG
  have HI := Lib.hid hI
  have HG1 := Lib.hid hg
  obtain rfl : k = N := by rw [hI.1, hG.1]
  clear hG hI hg HGR
  go_wp2_with (at_make; go_must (refine wpList_make_full _ rfl (.tmp 19) (.tmp 19) 43 rfl w1.heap.size 4 i0 _ 1 Try.underlying43 hi hz0 hz1 .i64 .i64 (k : Int) (k : Int) k rfl rfl rfl rfl (by rw [hz2]; omega) (by unfold maxLen; omega) (Nat.le_refl _) ?_; intro w2 ho2 hg2; have HM2 := Lib.hid (MkAt.first ho2); have HG2 := Lib.hid hg2; have hlt2 := HM2.out.lt.2; clear ho2 hg2 hi hz0 hz1 hz2))
  have HE2 := Lib.hid (HE.out.keep (grownBy_trans HG1.out HG2.out))
  have HI2 := Lib.hid (HI.out.keep HG2.out)
  have HEB := Lib.hid (show E ≠ [] → ∀ ad, A = some ad → ad.block < w1.heap.size from fun h0 ad e => by subst e; exact Nat.lt_of_lt_of_le (eds_lt HE.out h0) HG1.out.size)
  have HIB := Lib.hid (show G ≠ [] → ∀ ad, B = some ad → ad.block < w1.heap.size from fun h0 ad e => by subst e; exact HI.out.lt h0)
  have hwr1 := HG1.out.size
  clear HE HI
  generalize w1.heap.size = r at *
  go_loopg [7] k (fun g o wr => ∃ (O : List Int) (D : List Bool), g = fcnt D ∧ Hid (OrdP (prs k E) G O) ∧ Hid (DnOk k O D) ∧ Hid (O.length + fcnt D = k) ∧ Hid (MkAt r wr r k D) ∧ Hid (wr.ownsRow w2.heap.size 3 1 o O.length (intsV O)) ∧ Hid (SameB r w2 wr) ∧ Hid (w.grownBy wr none) ∧ Hid (w2.heap.size ≤ wr.heap.size))
  case atStart => exact ⟨[], _, (fcnt_rep k).symm, fun q x h => by simp at h, DnOk.first k, (by show ([] : List Int).length + fcnt (List.replicate k false) = k; rw [fcnt_rep]; simp), HM2, own_nil _ _ _ _, SameB.refl _ _, grownBy_trans HG1.out HG2.out, Nat.le_refl _⟩
  case round =>
    obtain ⟨O, D, hgk, HP, HD, HL, HM, HO, HSB, HGW, HSZ⟩ := hrel
    have HGK := Lib.hid hgk
    clear hgk
    have HEW := Lib.hid (HSB.out.eds HE2.out HEB.out)
    have HIW := Lib.hid (HSB.out.ints HI2.out HIB.out)
    have hsz := HSZ.out
    obtain ⟨w3, hw3⟩ : ∃ x, x = wr := ⟨_, rfl⟩
    subst hw3
    go_wp2_with fail
    go_loopw [9, 8] (fun i x wi => ∃ v : Nat, v ≤ k ∧ i = .int .i64 v ∧ w3 = wi ∧ ((x = .int .i64 (-1) ∧ Hid (∀ u, u < v → ¬ MayO (prs k E) G O u)) ∨ ∃ y : Nat, x = .int .i64 y ∧ y < k ∧ Hid (NextO (prs k E) G O y))) (fun i _ _ => k - (intOf i).toNat)
    case atStart => exact ⟨0, Nat.zero_le _, rfl, rfl, .inl ⟨rfl, fun u h => absurd h (Nat.not_lt_zero _)⟩⟩
    case round =>
      obtain ⟨v, hv, rfl, hwr, hx⟩ := hrel
      subst hwr
      rcases hx with ⟨rfl, HNM⟩ | ⟨y, rfl, hy, HNX⟩
      · by_cases hvk : v < k
        · obtain ⟨x0, hx0, htop⟩ := HG.out.2 v hvk
          obtain ⟨bd, rfl, hx9⟩ := HIW.out.at_ (show v < G.length by rw [HG.out.1]; exact hvk)
          clear hx9
          have hcg := HIW.out.cellOf hx0
          obtain ⟨z, hz⟩ : ∃ z : Int, z = (x0 : Int) := ⟨_, rfl⟩
          rw [← hz] at hcg
          by_cases hxv : x0 = v
          · have e1 : (z != (v : Int)) = false := by simp [hz, hxv]
            have HX0 := Lib.hid (show G[v]? = some (v : Int) by rw [hx0, hxv])
            have hdl : v < D.length := by rw [HD.out.1]; exact hvk
            clear hxv hz hx0 htop
            by_cases hm : mk D v
            · have hcd := HM.out.cell hm
              have HNO := Lib.hid (show ¬ MayO (prs k E) G O v from fun h => h.2.1 ((HD.out.2 v).1 hm).2)
              clear hm
              go_wp2_with fail
              go_roundw
              case rel => exact ⟨v + 1, by omega, by go_num, (by first | rfl | trivial), .inl ⟨rfl, fun u hu => by
                rcases Nat.lt_succ_iff_lt_or_eq.1 hu with h | rfl
                · exact HNM.out u h
                · exact HNO.out⟩⟩
              case measure => simp [intOf]; omega
            · have hcd := HM.out.cell (not_mk hdl hm)
              have HNI := Lib.hid (show (v : Int) ∉ O from fun h => hm ((HD.out.2 v).2 ⟨hvk, h⟩))
              clear hm
              go_wp2_with fail
              clear hcd hcg e1
              go_loopw [11, 10] (fun i f wi => ∃ (q : Nat) (b : Bool), q ≤ E.length ∧ i = .int .i64 q ∧ f = .bool b ∧ w3 = wi ∧ Hid (b = true → ∀ (j : Nat) (e : Edg), j < q → E[j]? = some e → ¬ badE k G D v e) ∧ Hid (b = false → ∃ (j : Nat) (e : Edg), E[j]? = some e ∧ badE k G D v e)) (fun i _ _ => E.length - (intOf i).toNat)
              case atStart => exact ⟨0, true, Nat.zero_le _, rfl, rfl, rfl, fun _ j e h => absurd h (Nat.not_lt_zero _), fun h => (by cases h)⟩
              case round =>
                obtain ⟨q, b, hq, rfl, rfl, hwr, HB1, HB2⟩ := hrel
                subst hwr
                by_cases hqe : q < E.length
                · have HX := Lib.hid (show E[q]? = some E[q] from List.getElem?_eq_getElem hqe)
                  generalize E[q] = e at HX
                  obtain ⟨ad, rfl⟩ := HEW.out.some_ hqe
                  obtain ⟨hc1, _, hc2⟩ := eds_cells HEW.out HX.out
                  obtain ⟨t, ht⟩ : ∃ t : Bool, t = true ↔ badE k G D v e := by
                    by_cases h : badE k G D v e
                    · exact ⟨true, fun _ => h, fun _ => rfl⟩
                    · exact ⟨false, fun h' => (by cases h'), fun h' => absurd h' h⟩
                  have HT := Lib.hid ht
                  clear ht
                  obtain ⟨fr, pc, tt⟩ := e
                  try dsimp only at hc1 hc2
                  go_upto_region 16 with fail
                  clear hc1 hc2
                  go_cut [99] (fun x wx => x = .bool t ∧ wx = w3)
                  case first =>
                    by_cases h1 : 0 ≤ fr
                    · by_cases h2 : fr < (k : Int)
                      · by_cases h3 : 0 ≤ tt
                        · by_cases h4 : tt < (k : Int)
                          · obtain ⟨a, rfl⟩ : ∃ a : Nat, fr = a := ⟨fr.toNat, by omega⟩
                            obtain ⟨b', rfl⟩ : ∃ b : Nat, tt = b := ⟨tt.toNat, by omega⟩
                            have ha : a < k := by omega
                            have hb : b' < k := by omega
                            obtain ⟨xa, hxa, hta⟩ := HG.out.2 a ha
                            obtain ⟨xb, hxb, htb⟩ := HG.out.2 b' hb
                            have hxak : xa < k := Nat.lt_of_le_of_lt hta.le ha
                            have hca := HIW.out.cellOf hxa
                            have hcb := HIW.out.cellOf hxb
                            have HXA := Lib.hid hxa
                            have HXB := Lib.hid hxb
                            obtain ⟨za, hza⟩ : ∃ z : Int, z = (xa : Int) := ⟨_, rfl⟩
                            obtain ⟨zb, hzb⟩ : ∃ z : Int, z = (xb : Int) := ⟨_, rfl⟩
                            rw [← hzb] at hcb
                            clear hxa hxb hta htb h1 h2 h3 h4
                            by_cases hbv : xb = v
                            · have e2 : (zb == (v : Int)) = true := by simp [hzb, hbv]
                              by_cases hav : xa = v
                              · have e3 : (za != (v : Int)) = false := by simp [hza, hav]
                                rw [← hza] at hca
                                have HTT := Lib.hid (show t = false from Bool.eq_false_iff.2 fun h => by obtain ⟨_, _, x, hx, hne, _⟩ := HT.out.1 h; dsimp only at hx; rw [Int.toNat_natCast, HXA.out] at hx; injection hx with hx; omega)
                                clear hav hbv hza hzb
                                go_wp2_with fail
                                go_meet
                                case rel => exact ⟨by rw [HTT.out], rfl⟩
                              · have hdl : xa < D.length := by rw [HD.out.1]; exact hxak
                                have e3 : (za != (v : Int)) = true := by simp [hza]; omega
                                have hzr : 0 ≤ za ∧ za < (k : Int) := by omega
                                by_cases hm : mk D xa
                                · have hcm := HM.out.cell hm
                                  have HTT := Lib.hid (show t = false from Bool.eq_false_iff.2 fun h => by obtain ⟨_, _, x, hx, _, hn⟩ := HT.out.1 h; dsimp only at hx; rw [Int.toNat_natCast, HXA.out] at hx; injection hx with hx; obtain rfl : x = xa := (by omega); exact hn hm)
                                  have e4 : ((xa : Int) != (v : Int)) = true := by rw [← hza]; exact e3
                                  clear hav hbv hza hzb hm hzr e3
                                  go_wp2_with fail
                                  go_meet
                                  case rel => exact ⟨by rw [HTT.out], rfl⟩
                                · have hcm := HM.out.cell (not_mk hdl hm)
                                  have HTT := Lib.hid (show t = true from HT.out.2 ⟨(show edgeIn k ⟨(a : Int), pc, (b' : Int)⟩ = true from decide_eq_true (show (0 : Int) ≤ a ∧ (a : Int) < k ∧ (0 : Int) ≤ b' ∧ (b' : Int) < k by omega)), by dsimp only; rw [Int.toNat_natCast, HXB.out, hbv], xa, by dsimp only; rw [Int.toNat_natCast]; exact HXA.out, hav, hm⟩)
                                  have e4 : ((xa : Int) != (v : Int)) = true := by rw [← hza]; exact e3
                                  clear hav hbv hza hzb hm hzr e3
                                  go_wp2_with fail
                                  go_meet
                                  case rel => exact ⟨by rw [HTT.out], rfl⟩
                            · have e2 : (zb == (v : Int)) = false := by simp [hzb]; omega
                              have HTT := Lib.hid (show t = false from Bool.eq_false_iff.2 fun h => by obtain ⟨_, h2, _⟩ := HT.out.1 h; dsimp only at h2; rw [Int.toNat_natCast, HXB.out] at h2; injection h2 with h2; omega)
                              clear hbv hza hzb
                              go_wp2_with fail
                              go_meet
                              case rel => exact ⟨by rw [HTT.out], rfl⟩
                          · have HTT := Lib.hid (show t = false from Bool.eq_false_iff.2 fun h => h4 (of_decide_eq_true (HT.out.1 h).1).2.2.2)
                            go_wp2_with fail
                            go_meet
                            case rel => exact ⟨by rw [HTT.out], rfl⟩
                        · have HTT := Lib.hid (show t = false from Bool.eq_false_iff.2 fun h => h3 (of_decide_eq_true (HT.out.1 h).1).2.2.1)
                          go_wp2_with fail
                          go_meet
                          case rel => exact ⟨by rw [HTT.out], rfl⟩
                      · have HTT := Lib.hid (show t = false from Bool.eq_false_iff.2 fun h => h2 (of_decide_eq_true (HT.out.1 h).1).2.1)
                        go_wp2_with fail
                        go_meet
                        case rel => exact ⟨by rw [HTT.out], rfl⟩
                    · have HTT := Lib.hid (show t = false from Bool.eq_false_iff.2 fun h => h1 (of_decide_eq_true (HT.out.1 h).1).1)
                      go_wp2_with fail
                      go_meet
                      case rel => exact ⟨by rw [HTT.out], rfl⟩
                  case rest =>
                  obtain ⟨rfl, hwc⟩ := hcut
                  have hwc' := hwc.symm
                  subst hwc'
                  cases t
                  · have HNB := Lib.hid (show ¬ badE k G D v ⟨fr, pc, tt⟩ from fun h => (by have := HT.out.2 h; cases this))
                    go_wp2_with fail
                    go_roundw
                    case rel => exact ⟨q + 1, b, by omega, by go_num, rfl, (by first | rfl | trivial), fun hb j e hj he => by
                      rcases Nat.lt_succ_iff_lt_or_eq.1 hj with h | rfl
                      · exact HB1.out hb j e h he
                      · rw [HX.out] at he
                        injection he with he
                        subst he
                        exact HNB.out, HB2⟩
                    case measure => simp [intOf]; omega
                  · have HBB := Lib.hid (HT.out.1 rfl)
                    go_wp2_with fail
                    go_roundw
                    case rel => exact ⟨q + 1, false, by omega, by go_num, rfl, (by first | rfl | trivial), fun h => (by cases h), fun _ => ⟨q, _, HX.out, HBB.out⟩⟩
                    case measure => simp [intOf]; omega
                · cases b
                  · have HNO := Lib.hid (show ¬ MayO (prs k E) G O v from fun h => by
                      obtain ⟨j, e, hj, hb⟩ := HB2.out rfl
                      exact (free_iff HG.out HD.out).1 h.2.2 j e hj hb)
                    go_wp2_with fail
                    go_roundw
                    case rel => exact ⟨v + 1, by omega, by go_num, (by first | rfl | trivial), .inl ⟨rfl, fun u hu => by
                      rcases Nat.lt_succ_iff_lt_or_eq.1 hu with h | rfl
                      · exact HNM.out u h
                      · exact HNO.out⟩⟩
                    case measure => simp [intOf]; omega
                  · have HYES := Lib.hid (show NextO (prs k E) G O v from ⟨⟨HX0.out, HNI.out, (free_iff HG.out HD.out).2 fun j e hj => HB1.out rfl j e (by have := (List.getElem?_eq_some_iff.1 hj).1; omega) hj⟩, HNM.out⟩)
                    go_wp2_with fail
                    go_roundw
                    case rel => exact ⟨v + 1, by omega, by go_num, (by first | rfl | trivial), .inr ⟨v, rfl, hvk, HYES.out⟩⟩
                    case measure => simp [intOf]; omega
          · have e1 : (z != (v : Int)) = true := by simp [hz]; omega
            have HNO := Lib.hid (show ¬ MayO (prs k E) G O v from fun h => by
              have := h.1
              rw [hx0] at this
              injection this with this
              omega)
            clear hxv hz hx0 htop
            go_wp2_with fail
            go_roundw
            case rel => exact ⟨v + 1, by omega, by go_num, (by first | rfl | trivial), .inl ⟨rfl, fun u hu => by
              rcases Nat.lt_succ_iff_lt_or_eq.1 hu with h | rfl
              · exact HNM.out u h
              · exact HNO.out⟩⟩
            case measure => simp [intOf]; omega
        · have hvv : v = k := by omega
          have HEND := Lib.hid (show IsOr (prs k E) G O from ⟨HP.out, fun u hu => by
            by_cases huk : u < v
            · exact HNM.out u huk hu
            · have := (List.getElem?_eq_some_iff.1 hu.1).1
              rw [HG.out.1] at this
              omega⟩)
          go_wp2_with fail
          go_ret
          exact ⟨G, O, HG.out, HEND.out, RetInts.own HO.out (Nat.le_trans (Nat.le_trans HG1.out.size HG2.out.size) (Nat.le_refl _)) HGW.out⟩
      · have hyl : y < D.length := by rw [HD.out.1]; exact hy
        have HNI := Lib.hid (show ¬ mk D y from fun h => HNX.out.1.2.1 ((HD.out.2 y).1 h).2)
        have hcd := HM.out.cell (not_mk hyl HNI.out)
        have hfr := HM.out.fr y
        have HFC := Lib.hid (fcnt_set (not_mk hyl HNI.out))
        have HST := Lib.hid (HM.out.set y true)
        have HOS := Lib.hid (show (w3.setCell ⟨r, y, none⟩ (.bool true)).ownsRow w2.heap.size 3 1 u7 O.length (intsV O) from own_keep HO.out fun g hg hg2 => HST.out.2.block g hg2 (fun e => by injection e with e; omega))
        have HSB2 := Lib.hid (HSB.out.step HST.out.2 (by omega) (fun q hq => by injection hq with hq; omega))
        have HGW2 := Lib.hid (gr_own HGW.out HST.out.2 (fun q hq => by injection hq with hq; omega))
        have hs3 := HST.out.2.size
        have HOL := Lib.hid HL.out
        have hol : O.length ≤ k := by have := HL.out; omega
        go_wp2_with (at_builtin; go_must (refine app_int rfl (.tmp 108) (.tmp 110) rfl w2.heap.size u7 _ O rfl (HOS.out.alloc _) w3.heap.size y _ rfl (by have h := heap_alloc_new (w3.setCell ⟨r, y, none⟩ (.bool true)) (.cells #[.int .i64 y] 3); simpa using h) (by omega) (by simp; omega) ?_; intro v5 w5 ho5 hg5; have HO5 := Lib.hid ho5; have HG5 := Lib.hid hg5; clear ho5 hg5))
        all_goals
          have HBN := Lib.hid (own_is (HOS.out.alloc (.cells #[.int .i64 y] 3)))
          go_roundg (fcnt (D.set y true))
          case measure => have := HFC.out; have := HGK.out; omega
          case rel => exact ⟨O ++ [(y : Int)], D.set y true, rfl, HP.out.next HNX.out, HD.out.next hy, by have := HFC.out; have := HL.out; show (O ++ [(y : Int)]).length + _ = k; rw [List.length_append, List.length_singleton]; omega, (HST.out.1.gr (gr_alloc (grownBy_refl _ none) _)).row HG5.out (fun e => by have := HBN.out r e; omega), by rw [List.length_append]; exact HO5.out, (HSB2.out.step (gr_alloc (grownBy_refl _ none) _) (by omega) (fun q hq => by cases hq)).step HG5.out (by simp only [World.size_alloc]; omega) (fun q hq => by have := HBN.out q hq; omega), gr_own (gr_alloc HGW2.out _) HG5.out (fun q hq => by have := HBN.out q hq; have := HG2.out.size; omega), by have := HG5.out.size; simp only [World.size_alloc] at this; exact Nat.le_trans (by omega) this⟩

end Go.Proofs.Ytneehdjaaofjaaa
