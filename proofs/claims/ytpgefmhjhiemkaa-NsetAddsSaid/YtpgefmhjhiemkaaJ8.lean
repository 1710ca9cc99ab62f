/- merge: two rows of runs made one. -/
import Derived.Test.YtpgefmhjhiemkaaJ7
namespace Go.Proofs.Ytpgefmhjhiemkaa
open Go.RowKit
/-- What merge holds at its loop's head: what is left of either, what it has. -/
structure MgP (A B a b L : List (Int × Int)) : Prop where
  oa : SpOk a
  ob : SpOk b
  ol : SpOk L
  ia : SpIn a
  ib : SpIn b
  il : SpIn L
  ahead : ∀ p ∈ L, ∀ q, q ∈ a ∨ q ∈ b → p.1 ≤ q.1
  all : ∀ z, (z ∈ els L ∨ z ∈ els a ∨ z ∈ els b) ↔ (z ∈ els A ∨ z ∈ els B)
  len : L.length + a.length + b.length ≤ A.length + B.length
theorem MgP.swap {A B a b L : List (Int × Int)} (h : MgP A B a b L) : MgP A B b a L :=
  ⟨h.ob, h.oa, h.ol, h.ib, h.ia, h.il, fun p hp q hq => h.ahead p hp q hq.symm, fun z => by rw [← h.all z, or_comm (a := z ∈ els b)], by have := h.len; omega⟩
theorem MgP.step {A B a b L : List (Int × Int)} {p : Int × Int} (h : MgP A B (p :: a) b L) (hb : ∀ q, b.head? = some q → p.1 ≤ q.1) : MgP A B a b (pushI L p) := by
  have hp := h.oa.head
  obtain ⟨h1, h2, h3⟩ := pushI_ok h.ol hp (fun q hq => h.ahead q hq p (.inl (by simp)))
  refine ⟨h.oa.tail, h.ob, h1, fun q hq => h.ia q (by simp [hq]), h.ib, pushI_in h.il (h.ia p (by simp)), fun q hq r hr => ?_, fun z => ?_, ?_⟩
  · have h4 := h3 q hq
    rcases hr with hr | hr
    · have := h.oa.far r hr
      omega
    · cases b with
      | nil => cases hr
      | cons s t =>
        have h5 := hb s rfl
        rcases List.mem_cons.1 hr with rfl | hr
        · omega
        · have := h.ob.far r hr
          have := h.ob.head
          omega
  · rw [← h.all z, h2, els_cons_mem]
    constructor
    · rintro ((h | h) | h | h)
      · exact .inl h
      · exact .inr (.inl (.inl h))
      · exact .inr (.inl (.inr h))
      · exact .inr (.inr h)
    · rintro (h | (h | h) | h)
      · exact .inl (.inl h)
      · exact .inl (.inr h)
      · exact .inr (.inl h)
      · exact .inr (.inr h)
  · have := pushI_len_le L p
    have := h.len
    rw [List.length_cons] at this
    omega
theorem MgP.first {A B : List (Int × Int)} (oa : SpOk A) (ob : SpOk B) (ia : SpIn A) (ib : SpIn B) : MgP A B A B [] :=
  ⟨oa, ob, trivial, ia, ib, fun p hp => (by cases hp), fun p hp => (by cases hp), fun z => by simp [els], by simp⟩
def lenV : Value → Nat
  | .slice _ n _ => n
  | _ => 0
/-- Where merge's loop stands. -/
def MgRel (A B : List (Int × Int)) (W : World) (x y l : Value) (wr : World) : Prop :=
  ∃ (a b L : List (Int × Int)) (P Q : Option Addr) (c d : Nat), x = .slice P a.length c ∧ y = .slice Q b.length d ∧ a.length ≤ c ∧ b.length ≤ d ∧ SpnAt W P a ∧ SpnAt W Q b ∧ OwS W.heap.size wr l L ∧ W.grownBy wr none ∧ MgP A B a b L
theorem spn_head {w : World} {ad : Addr} {p : Int × Int} {r : List (Int × Int)} (h : SpnAt w (some ad) (p :: r)) : w.cell? ad = some (.int .i64 p.1) ∧ w.cell? ⟨ad.block, ad.off + 1, none⟩ = some (.int .i64 p.2) := by
  have h1 := sp_cells h (k := 0) rfl
  have e : ad.add (0 * 2) = ad := by unfold Addr.add; simp
  rwa [e] at h1
theorem add_add (a : Addr) (i j : Nat) : (a.add i).add j = a.add (i + j) := by
  unfold Addr.add
  by_cases hi : i = 0
  · subst hi; simp
  · by_cases hj : j = 0
    · subst hj; simp
    · have : ¬ i + j = 0 := by omega
      simp [hi, hj]
      omega
theorem spn_drop {w : World} {ad : Addr} {S : List (Int × Int)} (h : SpnAt w (some ad) S) (k : Nat) : SpnAt w (some (ad.add (k * 2))) (S.drop k) := by
  rcases h with rfl | ⟨ad', e, hc⟩
  · exact .inl (by simp)
  · obtain rfl := Option.some.inj e
    refine .inr ⟨_, rfl, fun j x hx i u hu => ?_⟩
    rw [List.getElem?_drop] at hx
    have := hc (k + j) x hx i u hu
    rwa [add_add, show k * 2 + (j * 2 + i) = (k + j) * 2 + i by rw [Nat.add_mul]; omega]
theorem spn_tail {w : World} {ad : Addr} {p : Int × Int} {r : List (Int × Int)} (h : SpnAt w (some ad) (p :: r)) : SpnAt w (some (ad.add 2)) r := spn_drop h 1
set_option maxRecDepth 100000 in
set_option maxHeartbeats 4000000 in
theorem merge_any (P Q : Option Addr) (c d : Nat) (A B : List (Int × Int)) (W : World) (hP : SpnAt W P A) (hQ : SpnAt W Q B) (hc : A.length ≤ c) (hd : B.length ≤ d) (oa : SpOk A) (ob : SpOk B) (ia : SpIn A) (ib : SpIn B) :
    Calls Try.prog 37 #[.slice P A.length c, .slice Q B.length d] W fun e w' => ∃ v L, e = .returned v ∧ OwS W.heap.size w' v L ∧ W.grownBy w' none ∧ SpOk L ∧ SpIn L ∧ ∀ z, z ∈ els L ↔ z ∈ els A ∨ z ∈ els B := by
  have HM := Lib.hid (MgP.first oa ob ia ib)
  have HP := Lib.hid hP
  have HQ := Lib.hid hQ
  have hla := sp_short oa ia
  have hlb := sp_short ob ib
  obtain ⟨i0, hi, hz0, hz1, hz2⟩ := info_parts infoSpan
  have HI := Lib.hid hi
  have HZ0 := Lib.hid hz0
  have HZ1 := Lib.hid hz1
  have HZ2 := Lib.hid hz2
  clear hP hQ oa ob ia ib hi hz0 hz1 hz2
  go_enter Try.func37, Try.ntmps37
  go_wp2_with (at_make; go_must (refine wpList_make_own _ rfl _ _ 42 rfl W.heap.size 47 i0 (.agg #[.int .i64 0, .int .i64 0]) 2 Try.underlying42 HI.out HZ0.out HZ1.out _ _ _ (A.length + B.length) rfl (by show Value.int .i64 ((A.length : Int) + (B.length : Int)) = .int .i64 ((A.length + B.length : Nat) : Int); simp) (by omega) (by rw [HZ2.out]; omega) (by unfold maxLen; omega) (Nat.le_refl _) ?_; intro w2 ho hg2; have HG2 := Lib.hid hg2; have HO2 := Lib.hid ho; clear ho hg2))
  go_loopw [0, 1, 5] (fun x y l wr => MgRel A B W x y l wr) (fun x y _ _ => lenV x + lenV y)
  case atStart => exact ⟨A, B, [], P, Q, c, d, rfl, rfl, hc, hd, HP.out, HQ.out, HO2.out, HG2.out, HM.out⟩
  case round =>
    obtain ⟨a, b, L, P1, Q1, c1, d1, rfl, rfl, hc1, hd1, hP1, hQ1, ho, hg, hm⟩ := hrel
    have HM1 := Lib.hid hm
    have HO1 := Lib.hid ho
    have HG1 := Lib.hid hg
    have hsz := hg.size
    have hall := hm.len
    have HP1 := Lib.hid hP1
    have HQ1 := Lib.hid hQ1
    clear hm ho hg hP1 hQ1 HO2 HG2
    cases a with
    | nil =>
      cases b with
      | nil =>
        simp only [List.length_nil] at *
        go_wp2_with fail
        go_ret
        exact ⟨_, L, rfl, HO1.out, HG1.out, HM1.out.ol, HM1.out.il, fun z => by rw [← HM1.out.all z]; simp [els]⟩
      | cons q b =>
        obtain ⟨qd, rfl⟩ := HQ1.out.some_ (k := 0) (by simp)
        obtain ⟨f0, f1⟩ := spn_head (HQ1.out.keep HG1.out)
        have HST := Lib.hid (HM1.out.swap.step (fun q hq => by cases hq))
        have HPU := Lib.hid (fun (W2 : World) (g : wr.grownBy W2 none) => push_any W.heap.size u5 L q W2 (HO1.out.gr g) (Nat.le_trans hsz g.size) (by omega) HM1.out.il HM1.out.ol)
        simp only [List.length_nil, List.length_cons] at *
        go_wp2_with fail
        go_quiet (fail)
        go_wp2_with fail
        refine (HPU.out _ (by (repeat (first | with_reducible exact grownBy_refl _ _ | with_reducible assumption | with_reducible refine World.grownBy.gr_drew ?_ | with_reducible refine World.grownBy.gr_set ?_ (by simp) _ | with_reducible refine gr_alloc ?_ _)); exact gr_drewN (grownBy_refl _ _) _)).mono ?_
        rintro e w3 ⟨v3, rfl, ho3, hg3⟩
        have HO3 := Lib.hid ho3
        have HG3 := Lib.hid (gr_own (gr_drewN HG1.out _) hg3 (own_is HO1.out))
        clear ho3 hg3
        by_cases h1 : d1 = 1
        · have h0 : b.length = 0 := by omega
          have HR := Lib.hid (List.eq_nil_of_length_eq_zero h0)
          go_wp2_with fail
          exact ⟨⟨b, [], _, some qd, P1, 0, c1, by rw [h0], rfl, by omega, Nat.zero_le _, .inl HR.out, HP1.out, HO3.out, HG3.out, HST.out⟩, by simp [lenV]; try omega⟩
        · have h1' : ¬ d1 = 1 := h1
          go_wp2_with fail
          exact ⟨⟨b, [], _, some ⟨qd.block, qd.off + 2, none⟩, P1, d1 - 1, c1, rfl, rfl, by omega, Nat.zero_le _, spn_tail HQ1.out, HP1.out, HO3.out, HG3.out, HST.out⟩, by simp [lenV]; try omega⟩
    | cons p a =>
      obtain ⟨pd, rfl⟩ := HP1.out.some_ (k := 0) (by simp)
      obtain ⟨e0, e1⟩ := spn_head (HP1.out.keep HG1.out)
      cases b with
      | nil =>
        have HST := Lib.hid (HM1.out.step (fun q hq => by cases hq))
        have HPU := Lib.hid (fun (W2 : World) (g : wr.grownBy W2 none) => push_any W.heap.size u5 L p W2 (HO1.out.gr g) (Nat.le_trans hsz g.size) (by omega) HM1.out.il HM1.out.ol)
        simp only [List.length_nil, List.length_cons] at *
        have t0 : ((a.length : Int) + 1 == 0) = false := by rw [beq_eq_false_iff_ne]; omega
        go_wp2_with fail
        go_quiet (fail)
        clear t0
        go_wp2_with fail
        refine (HPU.out _ (by (repeat (first | with_reducible exact grownBy_refl _ _ | with_reducible assumption | with_reducible refine World.grownBy.gr_drew ?_ | with_reducible refine World.grownBy.gr_set ?_ (by simp) _ | with_reducible refine gr_alloc ?_ _)); exact gr_drewN (grownBy_refl _ _) _)).mono ?_
        rintro e w3 ⟨v3, rfl, ho3, hg3⟩
        have HO3 := Lib.hid ho3
        have HG3 := Lib.hid (gr_own (gr_drewN HG1.out _) hg3 (own_is HO1.out))
        clear ho3 hg3
        by_cases h1 : c1 = 1
        · have h0 : a.length = 0 := by omega
          have HR := Lib.hid (List.eq_nil_of_length_eq_zero h0)
          go_wp2_with fail
          exact ⟨⟨a, [], _, some pd, Q1, 0, d1, by rw [h0], rfl, by omega, Nat.zero_le _, .inl HR.out, HQ1.out, HO3.out, HG3.out, HST.out⟩, by simp [lenV]; try omega⟩
        · have h1' : ¬ c1 = 1 := h1
          go_wp2_with fail
          exact ⟨⟨a, [], _, some ⟨pd.block, pd.off + 2, none⟩, Q1, c1 - 1, d1, rfl, rfl, by omega, Nat.zero_le _, spn_tail HP1.out, HQ1.out, HO3.out, HG3.out, HST.out⟩, by simp [lenV]; try omega⟩
      | cons q b =>
        obtain ⟨qd, rfl⟩ := HQ1.out.some_ (k := 0) (by simp)
        obtain ⟨f0, f1⟩ := spn_head (HQ1.out.keep HG1.out)
        by_cases hqp : q.1 < p.1
        · have HST := Lib.hid (HM1.out.swap.step (fun r hr => by injection hr with hr; subst hr; omega))
          have HPU := Lib.hid (fun (W2 : World) (g : wr.grownBy W2 none) => push_any W.heap.size u5 L q W2 (HO1.out.gr g) (Nat.le_trans hsz g.size) (by omega) HM1.out.il HM1.out.ol)
          simp only [List.length_cons] at *
          have t0 : ((a.length : Int) + 1 == 0) = false := by rw [beq_eq_false_iff_ne]; omega
          have t1 : decide ((0 : Int) < (b.length : Int) + 1) = true := decide_eq_true (by omega)
          have t2 : decide (q.1 < p.1) = true := decide_eq_true hqp
          clear hqp
          go_wp2_with fail
          go_quiet (fail)
          clear t0 t1 t2
          go_wp2_with fail
          refine (HPU.out _ (by (repeat (first | with_reducible exact grownBy_refl _ _ | with_reducible assumption | with_reducible refine World.grownBy.gr_drew ?_ | with_reducible refine World.grownBy.gr_set ?_ (by simp) _ | with_reducible refine gr_alloc ?_ _)); exact gr_drewN (grownBy_refl _ _) _)).mono ?_
          rintro e w3 ⟨v3, rfl, ho3, hg3⟩
          have HO3 := Lib.hid ho3
          have HG3 := Lib.hid (gr_own (gr_drewN HG1.out _) hg3 (own_is HO1.out))
          clear ho3 hg3
          by_cases h1 : d1 = 1
          · have h0 : b.length = 0 := by omega
            have HR := Lib.hid (List.eq_nil_of_length_eq_zero h0)
            go_wp2_with fail
            exact ⟨⟨b, (p :: a), _, some qd, (some pd), 0, c1, by rw [h0], rfl, by omega, hc1, .inl HR.out, HP1.out, HO3.out, HG3.out, HST.out⟩, by simp [lenV]; try omega⟩
          · have h1' : ¬ d1 = 1 := h1
            go_wp2_with fail
            exact ⟨⟨b, (p :: a), _, some ⟨qd.block, qd.off + 2, none⟩, (some pd), d1 - 1, c1, rfl, rfl, by omega, hc1, spn_tail HQ1.out, HP1.out, HO3.out, HG3.out, HST.out⟩, by simp [lenV]; try omega⟩
        · have HST := Lib.hid (HM1.out.step (fun r hr => by injection hr with hr; subst hr; omega))
          have HPU := Lib.hid (fun (W2 : World) (g : wr.grownBy W2 none) => push_any W.heap.size u5 L p W2 (HO1.out.gr g) (Nat.le_trans hsz g.size) (by omega) HM1.out.il HM1.out.ol)
          simp only [List.length_cons] at *
          have t0 : ((a.length : Int) + 1 == 0) = false := by rw [beq_eq_false_iff_ne]; omega
          have t1 : decide ((0 : Int) < (b.length : Int) + 1) = true := decide_eq_true (by omega)
          have t2 : decide (q.1 < p.1) = false := decide_eq_false hqp
          clear hqp
          go_wp2_with fail
          go_quiet (fail)
          clear t0 t1 t2
          go_wp2_with fail
          refine (HPU.out _ (by (repeat (first | with_reducible exact grownBy_refl _ _ | with_reducible assumption | with_reducible refine World.grownBy.gr_drew ?_ | with_reducible refine World.grownBy.gr_set ?_ (by simp) _ | with_reducible refine gr_alloc ?_ _)); exact gr_drewN (grownBy_refl _ _) _)).mono ?_
          rintro e w3 ⟨v3, rfl, ho3, hg3⟩
          have HO3 := Lib.hid ho3
          have HG3 := Lib.hid (gr_own (gr_drewN HG1.out _) hg3 (own_is HO1.out))
          clear ho3 hg3
          by_cases h1 : c1 = 1
          · have h0 : a.length = 0 := by omega
            have HR := Lib.hid (List.eq_nil_of_length_eq_zero h0)
            go_wp2_with fail
            exact ⟨⟨a, (q :: b), _, some pd, (some qd), 0, d1, by rw [h0], rfl, by omega, hd1, .inl HR.out, HQ1.out, HO3.out, HG3.out, HST.out⟩, by simp [lenV]; try omega⟩
          · have h1' : ¬ c1 = 1 := h1
            go_wp2_with fail
            exact ⟨⟨a, (q :: b), _, some ⟨pd.block, pd.off + 2, none⟩, (some qd), c1 - 1, d1, rfl, rfl, by omega, hd1, spn_tail HP1.out, HQ1.out, HO3.out, HG3.out, HST.out⟩, by simp [lenV]; try omega⟩

end Go.Proofs.Ytpgefmhjhiemkaa
