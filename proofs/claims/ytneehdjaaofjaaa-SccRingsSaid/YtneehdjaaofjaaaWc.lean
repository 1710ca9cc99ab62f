/- SccRings, walked. -/
import Derived.Test.YtneehdjaaofjaaaWa
import Derived.Test.YtneehdjaaofjaaaWe
import Derived.Deep.RegionHeld3
namespace Go.Proofs.Ytneehdjaaofjaaa
open Go.RowKit
theorem ring_next {k i : Nat} (h : i < k) : (ringE k).take (i + 1) = (ringE k).take i ++ [⟨(i : Int), 0, (((i + 1) % k : Nat) : Int)⟩] := by
  rw [List.take_add_one, ring_get h]
  rfl
theorem ring_take_len {k i : Nat} (h : i ≤ k) : ((ringE k).take i).length = i := by rw [List.length_take, ring_len]; omega
set_option maxRecDepth 100000 in
set_option maxHeartbeats 4000000 in
theorem rings_walk (n cut : Int) (hn : 0 ≤ n ∧ n < 256) (hc : 0 ≤ cut ∧ cut < 256) (w : World) :
    Calls Try.prog 7 #[.int .u8 n, .int .u8 cut] w fun e w' => e = .returned (.bool true) ∧ w.grownBy w' none := by
  obtain ⟨n, rfl⟩ : ∃ m : Nat, n = m := ⟨n.toNat, by omega⟩
  obtain ⟨cut, rfl⟩ : ∃ m : Nat, cut = m := ⟨cut.toNat, by omega⟩
  have hn' : n < 256 := by omega
  have hc' : cut < 256 := by omega
  clear hn hc
  go_enter Try.func7, Try.ntmps7
  go_wp2_with fail
  refine (sh15_any w).mono ?_
  rintro e w1 ⟨rfl, hg⟩
  have HG1 := Lib.hid hg
  clear hg
  have hsz := HG1.out.size
  obtain ⟨r, hr⟩ : ∃ r : Nat, r = n % 50 := ⟨_, rfl⟩
  have hr50 : r < 50 := by omega
  have e1 : (n : Int).tmod 50 = (r : Int) := by rw [hr]; exact (Int.ofNat_tmod n 50).symm
  have e2 : IntKind.u8.wrap (r : Int) = (r : Int) := by unfold IntKind.wrap; simp [IntKind.signed, IntKind.bits]; omega
  clear hr
  obtain ⟨k, hk⟩ : ∃ k : Nat, k = 2 + r := ⟨_, rfl⟩
  have hk2 : 2 ≤ k ∧ k < 52 := by omega
  go_upto_region 3 with fail
  rw [show (2 : Int) + (r : Int) = (k : Int) by omega]
  clear e1 e2 hk hr50 hn'
  go_wp2_with fail
  go_loopw [8, 7] (fun i v wi => ∃ q : Nat, q ≤ k ∧ i = .int .i64 q ∧ Hid (OwE w1.heap.size wi v ((ringE k).take q)) ∧ Hid (w1.grownBy wi none)) (fun i _ _ => k - (intOf i).toNat)
  case atStart => exact ⟨0, Nat.zero_le _, rfl, OwE.nil _ _, grownBy_refl _ _⟩
  case round =>
    obtain ⟨q, hq, rfl, HO, HG⟩ := hrel
    obtain ⟨w2, hw2⟩ : ∃ x, x = wr := ⟨_, rfl⟩
    subst hw2
    have hs2 := HG.out.size
    by_cases hqk : q < k
    · obtain ⟨z, hz⟩ : ∃ z : Nat, z = (q + 1) % k := ⟨_, rfl⟩
      have hzk : z < k := by rw [hz]; exact Nat.mod_lt _ (by omega)
      have e1 : ((q : Int) + 1).tmod (k : Int) = (z : Int) := by rw [hz]; exact (Int.ofNat_tmod (q + 1) k).symm
      have HRN := Lib.hid (show (ringE k).take (q + 1) = (ringE k).take q ++ [⟨(q : Int), 0, (z : Int)⟩] by rw [hz]; exact ring_next hqk)
      have htl : ((ringE k).take q).length = q := ring_take_len hq
      have HTL := Lib.hid htl
      clear hz htl
      go_wp2_with (at_builtin; go_must (refine app_eds rfl (.tmp 23) (.tmp 30) rfl w1.heap.size u7 ((ringE k).take q) [⟨(q : Int), 0, (z : Int)⟩] rfl (HO.out.gr (gr_alloc (grownBy_refl w2 none) _)) (some ⟨w2.heap.size, 0, none⟩) 1 rfl (one_ed w2 ⟨(q : Int), 0, (z : Int)⟩ _) (by simp) (by rw [HTL.out]; simp; omega) (by simp only [World.size_alloc]; omega) ?_; intro v3 w3 ho3 hg3; have HG3 := Lib.hid (gr_far (gr_alloc HG.out _) hg3 (Nat.le_refl _) (own_is HO.out)); rw [← HRN.out] at ho3; have HO3 := Lib.hid ho3; clear ho3 hg3))
      go_roundw
      case rel => exact ⟨q + 1, by omega, by go_num, HO3, HG3⟩
      case measure => simp [intOf]; omega
    · obtain rfl : q = k := by omega
      obtain ⟨A, cA, hv, hcA, hEA⟩ := OwE.eds (show OwE w1.heap.size w2 u7 (ringE q) by have := HO.out; rwa [List.take_of_length_le (by rw [ring_len]; omega)] at this)
      rw [ring_len] at hv hcA
      subst hv
      have HEA := Lib.hid hEA
      have HG2 := Lib.hid (grownBy_trans HG1.out HG.out)
      have hszq : szE (q : Int) = q := by unfold szE; rw [if_neg (by omega), if_neg (by omega), Int.toNat_natCast]
      have HSZ := Lib.hid hszq
      clear hEA hqk HO HG HG1 hsz hszq
      go_wp2_with fail
      refine (show Calls Try.prog 12 #[.int .i64 q, .slice A q cA] w2 _ from by have := Groups15 (q : Int) A cA (ringE q) w2 HEA.out (by rw [ring_len]; omega); rw [ring_len, HSZ.out] at this; exact this).mono ?_
      rintro e w3 ⟨G, hG, A1, n1, c1, rfl, hI, hg, _⟩
      obtain rfl : G = List.replicate q 0 := hG.same (ring_gr q)
      obtain rfl : n1 = q := by rw [hI.len, List.length_replicate]
      have HI3 := Lib.hid hI
      have HE3 := Lib.hid (HEA.out.keep hg)
      have HG3 := Lib.hid (grownBy_trans HG2.out hg)
      clear hI hg hG HEA HG2 hs2
      obtain ⟨c, hc⟩ : ∃ c : Nat, c = cut % n1 := ⟨_, rfl⟩
      have hcq : c < n1 := by rw [hc]; exact Nat.mod_lt _ (by omega)
      have e1 : (cut : Int).tmod (n1 : Int) = (c : Int) := by rw [hc]; exact (Int.ofNat_tmod cut n1).symm
      clear hc
      go_upto_region 10 with fail
      clear e1
      go_cut [11] (fun v wx => ∃ (B : Option Addr) (cB : Nat), v = .slice B n1 cB ∧ Hid (IntsAt wx B n1 cB ((List.range n1).map fun (i : Nat) => (i : Int))) ∧ Hid (w3.grownBy wx none))
      case first =>
        obtain ⟨ad, rfl⟩ := HE3.out.some_ (show 0 < (ringE n1).length by rw [ring_len]; omega)
        have HKP := Lib.hid (fun (W : World) (hW : w3.grownBy W none) => HE3.out.keep hW)
        obtain ⟨sa, hsa, hnw⟩ := eds_drop (k := c + 1) HE3.out (by rw [ring_len]; exact hcA) (by rw [ring_len]; omega)
        have HNW := Lib.hid (fun (W : World) (hW : w3.grownBy W none) => hnw W hW)
        clear hnw
        have hw1 : IntKind.i64.wrap ((c : Int) + 1) = (c : Int) + 1 := by rw [IntKind.wrap_i64]; omega
        have hw2 : ((c : Int) + 1).toNat = c + 1 := by omega
        have hw3 : (0 : Int) ≤ (c : Int) + 1 := by omega
        have hw4 : (c : Int) + 1 ≤ (n1 : Int) := by omega
        have hw5 : (c : Int) ≤ (cA : Int) := by omega
        have hw6 : (n1 : Int) ≤ (cA : Int) := by omega
        go_region_held3 (fun W => w3.grownBy W none) (first | assumption | exact (grownBy_refl w3 none).gr_drew | exact (gr_alloc (grownBy_refl w3 none) _).gr_drew | exact gr_alloc (grownBy_refl w3 none).gr_drew _) (first
          | (refine step_app_eds rfl (.tmp 40) (.tmp 43) rfl w3.heap.size (.slice (some ⟨w3.heap.size, 0, none⟩) 0 0) [] ((ringE n1).take c) (by simp [Act.eval]) ⟨rfl, .inr ⟨w3.heap.size, 0, _, rfl, Nat.le_refl _, heap_alloc_new w3 (.cells #[] 33), Nat.le_refl _, by unfold maxLen; omega, rfl, rfl⟩⟩ (some ad) cA (by rw [ring_take_len (Nat.le_of_lt hcq)]; simp [Act.eval]) ((HKP.out _ (by first | assumption | exact (gr_alloc (grownBy_refl w3 none) _).gr_drew | exact gr_alloc (grownBy_refl w3 none).gr_drew _)).take c) (by simp) (by rw [ring_take_len (Nat.le_of_lt hcq)]; simp; omega) (by show w3.heap.size ≤ (w3.alloc _).heap.size; simp only [World.size_alloc]; omega) ?_; intro v4 w4 ho4 hg4; rw [List.nil_append] at ho4; have HO4 := Lib.hid ho4; have hgr4 : w3.grownBy w4 none := gr_far (B := w3.heap.size) (show w3.grownBy (w3.alloc (.cells #[] 33)).drew none from (gr_alloc (grownBy_refl w3 none) _).gr_drew) hg4 (Nat.le_refl _) (fun q hq => Nat.le_of_eq (by injection hq)); have HGR4 := Lib.hid hgr4; clear ho4 hg4)
          | (refine step_app_eds rfl (.tmp 44) (.tmp 48) rfl w3.heap.size v4 ((ringE n1).take c) ((ringE n1).drop (c + 1)) (by simp [Act.eval]) HO4.out (some sa) (cA - (c + 1)) (by simp [Act.eval, ring_len]) (HNW.out _ HGR4.out) (by simp) (by rw [ring_take_len (Nat.le_of_lt hcq), List.length_drop, ring_len]; omega) HGR4.out.size ?_; intro v5 w5 ho5 hg5; obtain ⟨A5, c5, rfl, _, hE5⟩ := OwE.eds (show OwE w3.heap.size w5 v5 (cutE n1 c) from ho5); have HE5 := Lib.hid hE5; have hgr5 : w3.grownBy w5 none := gr_far (B := w3.heap.size) HGR4.out hg5 (Nat.le_refl _) (own_is HO4.out); have HGR5 := Lib.hid hgr5; clear ho5 hg5 hE5)
          | (go_at_call 12; refine (Groups15 (n1 : Int) A5 c5 (cutE n1 c) w5 HE5.out (by unfold cutE; rw [List.length_append, ring_take_len (Nat.le_of_lt hcq), List.length_drop, ring_len]; omega)).mono ?_; rintro e w6 ⟨G, hG, B6, n6, c6, rfl, hI6, hg6, _⟩; rw [HSZ.out] at hG; obtain rfl : G = _ := hG.same (cut_gr hcq); obtain rfl : n1 = n6 := (by rw [hI6.len]; simp); have HI6 := Lib.hid hI6; have hgr6 : w3.grownBy w6 none := grownBy_trans HGR5.out hg6; have HGR6 := Lib.hid hgr6; clear hI6 hg6 hG))
        all_goals
          go_wp2_with fail
          go_meet
          case rel => exact ⟨B6, c6, rfl, HI6, HGR6⟩
      case rest =>
      obtain ⟨B, cB, rfl, HB, HGB⟩ := hcut
      obtain ⟨w4, hw4⟩ : ∃ x, x = wc := ⟨_, rfl⟩
      subst hw4
      have HI4 := Lib.hid (HI3.out.keep HGB.out)
      have HG4 := Lib.hid (grownBy_trans HG3.out HGB.out)
      clear HI3 HE3 HG3 HGB
      go_wp2_with fail
      go_loopw [12] (fun i wi => ∃ j : Nat, j ≤ n1 ∧ i = .int .i64 j ∧ w4 = wi) (fun i _ => n1 - (intOf i).toNat)
      case atStart => exact ⟨0, Nat.zero_le _, rfl, rfl⟩
      case round =>
        obtain ⟨j, hj, rfl, hwr⟩ := hrel
        subst hwr
        by_cases hjn : j < n1
        · obtain ⟨ad, rfl, hx9⟩ := HI4.out.at_ (show j < (List.replicate n1 (0 : Int)).length by rw [List.length_replicate]; exact hjn)
          clear hx9
          obtain ⟨bd, rfl, hx9⟩ := HB.out.at_ (show j < ((List.range n1).map fun (i : Nat) => (i : Int)).length by simp; exact hjn)
          clear hx9
          have hc1 := HI4.out.cellOf (show (List.replicate n1 (0 : Int))[j]? = some 0 by rw [List.getElem?_replicate, if_pos hjn])
          have hc2 := HB.out.cellOf (show ((List.range n1).map fun (i : Nat) => (i : Int))[j]? = some (j : Int) by rw [List.getElem?_map, List.getElem?_range hjn]; rfl)
          go_wp2_with fail
          go_roundw
          case rel => exact ⟨j + 1, by omega, by go_num, (by first | rfl | trivial)⟩
          case measure => simp [intOf]; omega
        · obtain rfl : j = n1 := by omega
          go_wp2_with fail
          go_ret
          exact ⟨rfl, HG4.out⟩

end Go.Proofs.Ytneehdjaaofjaaa
