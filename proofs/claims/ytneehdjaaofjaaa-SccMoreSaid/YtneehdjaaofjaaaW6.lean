/- SccGroups, SccReaches, walked. -/
import Derived.Test.YtneehdjaaofjaaaW5
namespace Go.Proofs.Ytneehdjaaofjaaa
open Go.RowKit
theorem gr_len {N : Nat} {ps : List (Nat × Nat)} {G : List Int} (h : IsGr N ps G) : G.length = N := h.1
theorem few_nats {N : Nat} {L : List Int} (hn : L.Nodup) (h : ∀ x ∈ L, ∃ v : Nat, v < N ∧ x = (v : Int)) : L.length ≤ N := by
  have h1 : L = (L.map fun x => x.toNat).map fun (v : Nat) => (v : Int) := by
    rw [List.map_map]
    refine (List.map_id L).symm.trans (List.map_congr_left fun x hx => ?_)
    obtain ⟨v, _, rfl⟩ := h x hx
    simp
  have h2 : (L.map fun x => x.toNat).Nodup := by
    rw [h1] at hn
    exact List.Pairwise.imp (R := fun (a b : Nat) => (a : Int) ≠ (b : Int)) (S := fun (a b : Nat) => a ≠ b) (fun hab (e : _ = _) => hab (congrArg (fun (x : Nat) => (x : Int)) e)) (List.pairwise_map.1 hn)
  have h3 : (L.map fun x => x.toNat) ⊆ List.range N := fun v hv => by
    obtain ⟨x, hx, rfl⟩ := List.mem_map.1 hv
    obtain ⟨v, hl, rfl⟩ := h x hx
    rw [Int.toNat_natCast]
    exact List.mem_range.2 hl
  have h4 := List.Nodup.length_le_of_subset h2 h3
  rw [List.length_map, List.length_range] at h4
  exact h4
theorem IsRe.len {N : Nat} {E : List Edg} {F R : List Int} (h : IsRe N (prs N E) F R) : R.length ≤ N :=
  few_nats (rise_nodup h.1) fun x hx => by
    obtain ⟨a, b, _, ha, hl, e⟩ := (h.2 x).1 hx
    exact ⟨b, hl.lt ha, e⟩
theorem IsOr.at_ {ps : List (Nat × Nat)} {g o : List Int} (h : IsOr ps g o) {x : Int} (hx : x ∈ o) : ∃ k v : Nat, o[k]? = some x ∧ x = (v : Int) ∧ NextO ps g (o.take k) v := by
  obtain ⟨k, hk⟩ := List.mem_iff_getElem?.1 hx
  obtain ⟨v, hv, hn⟩ := h.1 k x hk
  exact ⟨k, v, hk, hv, hn⟩
theorem IsOr.nodup {ps : List (Nat × Nat)} {g o : List Int} (h : IsOr ps g o) : o.Nodup := by
  refine List.pairwise_iff_getElem.2 fun i j hi hj hij e => ?_
  obtain ⟨v, hv, hn⟩ := h.1 j o[j] (List.getElem?_eq_getElem hj)
  refine hn.1.2.1 ?_
  rw [← hv, ← e]
  refine List.mem_iff_getElem?.2 ⟨i, ?_⟩
  rw [List.getElem?_take_of_lt hij, List.getElem?_eq_getElem hi]
theorem IsOr.len {N : Nat} {ps : List (Nat × Nat)} {g o : List Int} (hg : IsGr N ps g) (h : IsOr ps g o) : o.length ≤ N :=
  few_nats h.nodup fun x hx => by
    obtain ⟨k, v, _, hv, hn⟩ := h.at_ hx
    refine ⟨v, ?_, hv⟩
    have := List.getElem?_eq_some_iff.1 hn.1.1
    rw [← hg.1]
    exact this.1
theorem szE60 (n : Int) : szE (if 60 < n then 60 else n) ≤ 60 := by unfold szE; split <;> split <;> (try split) <;> omega
set_option maxRecDepth 100000 in
set_option maxHeartbeats 4000000 in
theorem groups_walk (n : Int) (A : Option Addr) (c0 : Nat) (E0 : List Edg) (w : World) (hE : EdsAt w A E0) (hc : E0.length ≤ c0) :
    Calls Try.prog 3 #[.int .i64 n, .slice A E0.length c0] w fun e w' => e = .returned (.bool true) ∧ w.grownBy w' none := by
  have HE0 := Lib.hid hE
  clear hE
  go_enter Try.func3, Try.ntmps3
  go_wp2_with fail
  refine (sh15_any w).mono ?_
  rintro e w1 ⟨rfl, hg⟩
  have HG1 := Lib.hid hg
  clear hg
  go_wp2_with fail
  refine (few15_any n A c0 E0 w1 (HE0.out.keep HG1.out) hc).mono ?_
  rintro e w2 ⟨d, rfl, rfl⟩
  have hN := szE60 n
  have HE1 := Lib.hid ((HE0.out.keep HG1.out).take 200)
  have hel : (E0.take 200).length ≤ 200 := by rw [List.length_take]; omega
  generalize (if 60 < n then 60 else n) = m at *
  generalize E0.take 200 = E at *
  clear HE0
  go_wp2_with fail
  refine (Groups15 m A d E w1 HE1.out (by omega)).mono ?_
  rintro e w2 ⟨G, hG, A1, n1, c1, rfl, hI, hg, _⟩
  have HGR := Lib.hid hG
  have HI2 := Lib.hid hI
  have HG2 := Lib.hid (grownBy_trans HG1.out hg)
  have HE2 := Lib.hid (HE1.out.keep hg)
  clear hG hI hg HG1 HE1
  go_wp2_with fail
  refine (r15_Groups_any m A d E w2 HE2.out (by omega)).mono ?_
  rintro e w3 ⟨G', hG', A2, n2, c2, rfl, hI, hg, _⟩
  obtain rfl : G' = G := hG'.same HGR.out
  have HJ3 := Lib.hid hI
  have HI3 := Lib.hid (HI2.out.keep hg)
  have HG3 := Lib.hid (grownBy_trans HG2.out hg)
  have HE3 := Lib.hid (HE2.out.keep hg)
  clear hG' hI hg HG2 HE2 HI2
  go_wp2_with fail
  refine (Ints_any _ _ _ _ _ _ G' G' _ HI3.out HJ3.out (by rw [gr_len HGR.out]; omega)).mono ?_
  rintro e w4 ⟨rfl, hg⟩
  rw [decide_eq_true rfl]
  have HG4 := Lib.hid (grownBy_trans HG3.out hg)
  have HE4 := Lib.hid (HE3.out.keep hg)
  clear hg HG3 HE3 HI3 HJ3
  go_wp2_with fail
  refine (Order15 m A d E w4 HE4.out (by omega)).mono ?_
  rintro e w5 ⟨G2, O, hG2, hO, A1, n1, c1, rfl, hI, hg, _⟩
  obtain rfl : G2 = G' := hG2.same HGR.out
  have HOR := Lib.hid hO
  have HI5 := Lib.hid hI
  have HG5 := Lib.hid (grownBy_trans HG4.out hg)
  have HE5 := Lib.hid (HE4.out.keep hg)
  clear hG2 hO hI hg HG4 HE4
  go_wp2_with fail
  refine (r15_Order_any m A d E w5 HE5.out (by omega)).mono ?_
  rintro e w6 ⟨G3, O', hG3, hO', A2, n2, c2, rfl, hI, hg, _⟩
  obtain rfl : G3 = G2 := hG3.same HGR.out
  obtain rfl : O' = O := hO'.same HOR.out
  have HJ6 := Lib.hid hI
  have HI6 := Lib.hid (HI5.out.keep hg)
  have HG6 := Lib.hid (grownBy_trans HG5.out hg)
  clear hG3 hO' hI hg HG5 HE5 HI5
  have hol : O'.length ≤ 1000000000000 := by
    have := HOR.out.len HGR.out
    omega
  go_wp2_with fail
  refine (Ints_any _ _ _ _ _ _ O' O' _ HI6.out HJ6.out hol).mono ?_
  rintro e w7 ⟨rfl, hg⟩
  rw [decide_eq_true rfl]
  have HG7 := Lib.hid (grownBy_trans HG6.out hg)
  clear hg HG6 HI6 HJ6
  go_wp2_with fail
  go_ret
  exact ⟨rfl, HG7.out⟩
set_option maxRecDepth 100000 in
set_option maxHeartbeats 4000000 in
theorem reaches_walk (n : Int) (A B : Option Addr) (c0 k d0 : Nat) (E0 : List Edg) (F : List Int) (w : World) (hE : EdsAt w A E0) (hc : E0.length ≤ c0) (hB : IntsAt w B k d0 F) (hF : k ≤ 9223372036854775807) :
    Calls Try.prog 4 #[.int .i64 n, .slice A E0.length c0, .slice B k d0] w fun e w' => e = .returned (.bool true) ∧ w.grownBy w' none := by
  have HE0 := Lib.hid hE
  have HB := Lib.hid hB
  have hFl : F.length ≤ 9223372036854775807 := by rw [← hB.1]; exact hF
  clear hE hB
  go_enter Try.func4, Try.ntmps4
  go_wp2_with fail
  refine (sh15_any w).mono ?_
  rintro e w1 ⟨rfl, hg⟩
  have HG1 := Lib.hid hg
  clear hg
  go_wp2_with fail
  refine (few15_any n A c0 E0 w1 (HE0.out.keep HG1.out) hc).mono ?_
  rintro e w2 ⟨d, rfl, rfl⟩
  have hN := szE60 n
  have HE1 := Lib.hid ((HE0.out.keep HG1.out).take 200)
  have hel : (E0.take 200).length ≤ 200 := by rw [List.length_take]; omega
  generalize (if 60 < n then 60 else n) = m at *
  generalize E0.take 200 = E at *
  clear HE0
  go_wp2_with fail
  refine (Reach15 m A B d k d0 E F w1 HE1.out (HB.out.keep HG1.out) (by omega) hFl).mono ?_
  rintro e w2 ⟨R, hR, A1, n1, c1, rfl, hI, hg, _⟩
  have HRE := Lib.hid hR
  have HI2 := Lib.hid hI
  have HG2 := Lib.hid (grownBy_trans HG1.out hg)
  have HE2 := Lib.hid (HE1.out.keep hg)
  clear hR hI hg HG1 HE1
  go_wp2_with fail
  refine (r15_Reach_any m A B d k d0 E F w2 HE2.out (HB.out.keep HG2.out) (by omega) hFl).mono ?_
  rintro e w3 ⟨R', hR', A2, n2, c2, rfl, hI, hg, _⟩
  obtain rfl : R' = R := hR'.same HRE.out
  have HJ3 := Lib.hid hI
  have HI3 := Lib.hid (HI2.out.keep hg)
  have HG3 := Lib.hid (grownBy_trans HG2.out hg)
  clear hR' hI hg HG2 HE2 HI2
  go_wp2_with fail
  refine (Ints_any _ _ _ _ _ _ R' R' _ HI3.out HJ3.out (by have := HRE.out.len; omega)).mono ?_
  rintro e w4 ⟨rfl, hg⟩
  rw [decide_eq_true rfl]
  have HG4 := Lib.hid (grownBy_trans HG3.out hg)
  clear hg HG3 HI3 HJ3
  go_wp2_with fail
  go_ret
  exact ⟨rfl, HG4.out⟩

end Go.Proofs.Ytneehdjaaofjaaa
