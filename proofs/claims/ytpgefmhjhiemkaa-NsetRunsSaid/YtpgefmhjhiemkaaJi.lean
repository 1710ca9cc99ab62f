/- New. -/
import Derived.Test.YtpgefmhjhiemkaaJh
namespace Go.Proofs.Ytpgefmhjhiemkaa
open Go.RowKit
/-- What New's loop has made of the first q numbers. -/
structure NwP (l : List Int) (q : Nat) (S : List (Int × Int)) : Prop where
  ok : SpOk S
  inn : SpIn S
  ahead : ∀ p ∈ S, ∀ x ∈ l.drop q, p.1 ≤ x
  all : ∀ z, z ∈ els S ↔ z ∈ l.take q ∧ inS z
  len : S.length ≤ q
theorem NwP.first (l : List Int) : NwP l 0 [] := ⟨trivial, fun p hp => (by cases hp), fun p hp => (by cases hp), fun z => by simp [els], Nat.le_refl _⟩
theorem drop_cons {α : Type} {l : List α} {q : Nat} {x : α} (hx : l[q]? = some x) : l.drop q = x :: l.drop (q + 1) := by
  obtain ⟨h, rfl⟩ := List.getElem?_eq_some_iff.1 hx
  exact List.drop_eq_getElem_cons h
theorem NwP.put {l : List Int} {q : Nat} {S : List (Int × Int)} {x : Int} (h : NwP l q S) (hs : l.Pairwise (· ≤ ·)) (hx : l[q]? = some x) (hr : inS x) : NwP l (q + 1) (pushI S (x, x)) := by
  have hd := drop_cons hx
  obtain ⟨h1, h2, h3⟩ := pushI_ok (x := (x, x)) h.ok (Int.le_refl _) (fun p hp => h.ahead p hp x (by rw [hd]; simp))
  refine ⟨h1, pushI_in h.inn ⟨hr.1, hr.2⟩, fun p hp y hy => ?_, fun z => ?_, ?_⟩
  · have h4 := h3 p hp
    have hp2 : (l.drop q).Pairwise (· ≤ ·) := hs.sublist (List.drop_sublist _ _)
    rw [hd] at hp2
    have := (List.pairwise_cons.1 hp2).1 y hy
    simp only at h4
    omega
  · rw [h2, h.all, List.take_add_one, hx, List.mem_append]
    simp only [Option.toList_some, List.mem_singleton]
    constructor
    · rintro (⟨h5, h6⟩ | h5)
      · exact ⟨.inl h5, h6⟩
      · obtain rfl : z = x := by omega
        exact ⟨.inr rfl, hr⟩
    · rintro ⟨h5 | h5, h6⟩
      · exact .inl ⟨h5, h6⟩
      · subst h5
        exact .inr ⟨Int.le_refl _, Int.le_refl _⟩
  · have := pushI_len_le S (x, x)
    have := h.len
    omega
theorem NwP.skip {l : List Int} {q : Nat} {S : List (Int × Int)} {x : Int} (h : NwP l q S) (hx : l[q]? = some x) (hr : ¬ inS x) : NwP l (q + 1) S := by
  have hd := drop_cons hx
  refine ⟨h.ok, h.inn, fun p hp y hy => h.ahead p hp y (by rw [hd]; simp [hy]), fun z => ?_, by have := h.len; omega⟩
  rw [h.all, List.take_add_one, hx, List.mem_append]
  simp only [Option.toList_some, List.mem_singleton]
  constructor
  · rintro ⟨h5, h6⟩
    exact ⟨.inl h5, h6⟩
  · rintro ⟨h5 | h5, h6⟩
    · exact ⟨h5, h6⟩
    · subst h5
      exact absurd h6 hr
/-- Where New's loop stands: the set at m, the sorted numbers in (A, n, c). -/
def NwRel (l : List Int) (m : Nat) (A : Option Addr) (c : Nat) (W : World) (i : Value) (wr : World) : Prop :=
  ∃ (q : Nat) (v : Value) (S : List (Int × Int)), i = .int .i64 q ∧ q ≤ l.length ∧ wr.heap[m]? = some (.cells #[v] 44 (0, 0)) ∧ OwS (m + 1) wr v S ∧ IntsAt wr A l.length c l ∧ W.grownBy wr none ∧ NwP l q S
set_option maxRecDepth 100000 in
set_option maxHeartbeats 4000000 in
theorem New13 (A : Option Addr) (n c : Nat) (l : List Int) (W : World) (h : IntsAt W A n c l) (hl : l.length ≤ 1000) :
    Calls Try.prog 12 #[.slice A n c] W fun e w' => ∃ m F, e = .returned (.pointer (some ⟨m, 0, none⟩)) ∧ SetAt w' F m (addsI [] l) ∧ W.grownBy w' none ∧ ∀ k, F k → W.heap.size ≤ k := by
  have HCL := Lib.hid (clone_any A n c l W h (by omega))
  have HL := Lib.hid hl
  clear h hl
  go_enter Try.func12, Try.ntmps12
  go_wp2_with fail
  refine HCL.out.mono ?_
  rintro e w1 ⟨v1, rfl, ho1, hg1⟩
  have HO1 := Lib.hid ho1
  have HG1 := Lib.hid hg1
  clear ho1 hg1
  go_wp2_with fail
  refine (sort_any _ v1 l w1 HO1.out (by have := HL.out; omega)).mono ?_
  rintro e w2 ⟨rfl, ho2, hg2⟩
  obtain ⟨K, hK⟩ : ∃ K, K = l.mergeSort fun x y => decide (x ≤ y) := ⟨_, rfl⟩
  rw [← hK] at ho2
  have HKP := Lib.hid (show K.Perm l by rw [hK]; exact List.mergeSort_perm _ _)
  have HKS := Lib.hid (show K.Pairwise (· ≤ ·) by
    rw [hK]
    have := List.pairwise_mergeSort (le := fun (x y : Int) => decide (x ≤ y)) (fun a b c h1 h2 => by simp at h1 h2 ⊢; omega) (fun a b => by simp; omega) l
    exact this.imp fun h => by simpa using h)
  have hKl : K.length ≤ 1000 := by have := HKP.out.length_eq; have := HL.out; omega
  obtain ⟨B, d, hv, hI, hB⟩ := IntsAt.of_own ho2
  subst hv
  have HG2 := Lib.hid (gr_own HG1.out hg2 (fun k hk => by
    cases B with
    | none => cases hk
    | some ad => injection hk with hk; have := hB ad rfl; have : ad.block = k := hk; omega))
  have HI := Lib.hid hI
  have hz2 := HG2.out.size
  have HBL := Lib.hid (show K ≠ [] → ∀ ad, B = some ad → ad.block < w2.heap.size from fun hne ad e => by
    subst e
    exact hI.lt hne)
  have HS0 := Lib.hid (heap_alloc_new w2 (.cells #[.slice none 0 0] 44))
  clear hK ho2 hg2 hI hB
  go_wp2_with fail
  go_loopw [15] (fun i wr => NwRel K w2.heap.size B d W i wr) (fun i _ => K.length - (intOf i).toNat)
  case atStart => exact ⟨0, _, [], rfl, Nat.zero_le _, HS0.out, OwS.nil _ _, HI.out.keep (by repeat (first | with_reducible exact grownBy_refl _ _ | with_reducible assumption | with_reducible refine World.grownBy.gr_drew ?_ | with_reducible refine World.grownBy.gr_set ?_ (by simp) _ | with_reducible refine gr_alloc ?_ _)), by (repeat (first | with_reducible exact grownBy_refl _ _ | with_reducible assumption | with_reducible refine World.grownBy.gr_drew ?_ | with_reducible refine World.grownBy.gr_set ?_ (by simp) _ | with_reducible refine gr_alloc ?_ _)); exact HG2.out, NwP.first K⟩
  case round =>
    obtain ⟨q, v, S, rfl, hq, hm, ho, hI, hg, hP⟩ := hrel
    have HP := Lib.hid hP
    have HMB := Lib.hid hm
    have HIq := Lib.hid hI
    have HG := Lib.hid hg
    have hSl := hP.len
    have hml := lt_of_heap hm
    obtain ⟨A3, c3, hv, _, _, _⟩ := ho.spn
    subst hv
    have HO := Lib.hid ho
    have hm0 : wr.cell? ⟨w2.heap.size, 0, none⟩ = some (.slice A3 S.length c3) := by simp [World.cell?, hm]
    by_cases hlt : q < K.length
    · obtain ⟨ad, rfl, hc1⟩ := hI.at_ hlt
      have hx := List.getElem?_eq_getElem hlt
      generalize K[q] = x at hc1 hx
      have HX := Lib.hid hx
      have hbl := HBL.out (fun e => by rw [e] at hlt; simp at hlt) ad rfl
      clear hm ho hI hg hP hx
      by_cases hr : inS x
      · have HR := Lib.hid (decide_eq_true hr)
        have HPU := Lib.hid (push_any (w2.heap.size + 1) (.slice A3 S.length c3) S (x, x) wr HO.out (by omega) (by omega) HP.out.inn HP.out.ok)
        have HRR := Lib.hid hr
        clear hr
        go_wp2_with fail
        refine (inRange_any x wr).mono ?_
        rintro e w5 ⟨rfl, rfl⟩
        rw [HR.out]
        go_wp2_with fail
        refine HPU.out.mono ?_
        rintro e w6 ⟨v6, rfl, ho6, hg6⟩
        obtain ⟨A6, c6, hv6, _, _, _⟩ := ho6.spn
        subst hv6
        have hob : ∀ k, (Value.slice A3 S.length c3).ownBlock = some k → w2.heap.size + 1 ≤ k := fun k hk => (HO.out.lt k hk).1
        have hm6 := (hg6.block w2.heap.size hml (fun e => by have := hob _ e.symm; omega)).trans HMB.out
        have HO6 := Lib.hid ho6
        have HG6 := Lib.hid (gr_own HG.out hg6 (fun k hk => by have := hob k hk; omega))
        have HM6 := Lib.hid hm6
        have c6m : w6.cell? ⟨w2.heap.size, 0, none⟩ = some (.slice A3 S.length c3) := by simp [World.cell?, hm6]
        have f6m : w6.frozen? ⟨w2.heap.size, 0, none⟩ = false := by simp [World.frozen?, hm6]
        have HI6 := Lib.hid (HIq.out.to fun _ ad' e => by
          injection e with e
          subst e
          exact hg6.block ad.block (by omega) (fun e => by have := hob _ e.symm; omega))
        clear ho6 hg6 hm6 hm0 hc1
        go_wp2_with fail
        go_roundw
        case rel => exact ⟨q + 1, _, pushI S (x, x), by go_num, by omega, by simp [World.setCell, Array.getElem?_modify, HM6.out], HO6.out.at_ (fun k hk => Below.heap_setCell _ _ _ _ (show k ≠ w2.heap.size from fun e => by have := (HO6.out.lt k hk).1; omega)), HI6.out.to (fun _ ad' e => by
          injection e with e
          subst e
          exact Below.heap_setCell _ _ _ _ (show ad.block ≠ w2.heap.size by omega)), HG6.out.gr_set (show _ ≤ w2.heap.size from hz2) _, HP.out.put HKS.out HX.out HRR.out⟩
        case measure => simp [intOf]; omega
      · have HR := Lib.hid (decide_eq_false hr)
        have HNR := Lib.hid hr
        clear hr
        go_wp2_with fail
        refine (inRange_any x wr).mono ?_
        rintro e w5 ⟨rfl, rfl⟩
        rw [HR.out]
        go_wp2_with fail
        go_roundw
        case rel => exact ⟨q + 1, _, S, by go_num, by omega, HMB.out, HO.out, HIq.out, HG.out, HP.out.skip HX.out HNR.out⟩
        case measure => simp [intOf]; omega
    · obtain rfl : q = K.length := by omega
      go_wp2_with fail
      go_ret
      have hall := hP.all
      rw [List.take_length] at hall
      have hok : SetOk (addsI [] l) := SetOk.nil.adds
      have hE : els S = addsI [] l := SetOk.ext ⟨els_rise hP.ok, hP.inn.els⟩ hok fun z => by
        rw [hall, addsI_mem, HKP.out.mem_iff]
        simp
      have hob : ∀ k, (Value.slice A3 S.length c3).ownBlock = some k → w2.heap.size + 1 ≤ k ∧ k < wr.heap.size := fun k hk => ho.lt k hk
      refine ⟨w2.heap.size, fun k => k = w2.heap.size ∨ (Value.slice A3 S.length c3).ownBlock = some k, rfl, ⟨.inl rfl, fun k hk => ?_, hok, _, S, hP.ok, hE, hm, ho.low (Nat.zero_le _), fun k hk => ⟨.inr hk, by have := (hob k hk).1; omega⟩⟩, hg, fun k hk => ?_⟩
      · rcases hk with rfl | hk
        · exact hml
        · exact (hob k hk).2
      · rcases hk with rfl | hk
        · exact hz2
        · have := (hob k hk).1
          omega

end Go.Proofs.Ytpgefmhjhiemkaa
