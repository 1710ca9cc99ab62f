/- SccOrder, walked. -/
import Derived.Test.YtneehdjaaofjaaaW8
namespace Go.Proofs.Ytneehdjaaofjaaa
open Go.RowKit
set_option maxRecDepth 100000 in
set_option maxHeartbeats 4000000 in
theorem order_walk (n : Int) (A : Option Addr) (c0 : Nat) (E0 : List Edg) (w : World) (hE : EdsAt w A E0) (hc : E0.length ≤ c0) :
    Calls Try.prog 5 #[.int .i64 n, .slice A E0.length c0] w fun e w' => e = .returned (.bool true) ∧ w.grownBy w' none := by
  have HE0 := Lib.hid hE
  clear hE
  obtain ⟨i0, hi, hz0, hz1, hz2⟩ := info_parts infoInt
  go_enter Try.func5, Try.ntmps5
  go_wp2_with fail
  refine (sh15_any w).mono ?_
  rintro e w1 ⟨rfl, hg⟩
  have HG1 := Lib.hid hg
  clear hg
  go_wp2_with fail
  refine (few15_any n A c0 E0 w1 (HE0.out.keep HG1.out) hc).mono ?_
  rintro e w2 ⟨d, rfl, rfl⟩
  have hN := szE60 n
  have hm60 : (if 60 < n then 60 else n) ≤ 60 := by split <;> omega
  have HE1 := Lib.hid ((HE0.out.keep HG1.out).take 200)
  have hel : (E0.take 200).length ≤ 200 := by rw [List.length_take]; omega
  generalize (if 60 < n then 60 else n) = m at *
  generalize E0.take 200 = E at *
  clear HE0
  go_wp2_with fail
  refine (Groups15 m A d E w1 HE1.out (by omega)).mono ?_
  rintro e w2 ⟨G, hG, A1, n1, c1, rfl, hI, hg, _⟩
  have HGR := Lib.hid hG
  have HI2 := Lib.hid hI
  have HG2 := Lib.hid (grownBy_trans HG1.out hg)
  have HE2 := Lib.hid (HE1.out.keep hg)
  obtain rfl : n1 = szE m := by rw [hI.len, hG.1]
  clear hG hI hg HG1 HE1
  go_wp2_with fail
  refine (Order15 m A d E w2 HE2.out (by omega)).mono ?_
  rintro e w3 ⟨G2, O, hG2, hO, A2, n2, c2, rfl, hI, hg, _⟩
  obtain rfl : G2 = G := hG2.same HGR.out
  have HOR := Lib.hid hO
  have HJ3 := Lib.hid hI
  have HI3 := Lib.hid (HI2.out.keep hg)
  have HG3 := Lib.hid (grownBy_trans HG2.out hg)
  have HE3 := Lib.hid (HE2.out.keep hg)
  obtain rfl : n2 = O.length := hI.len
  clear hG2 hO hI hg HG2 HE2 HI2
  have hol := HOR.out.len HGR.out
  have HSZ := Lib.hid (show m < 0 ∨ m = (szE m : Nat) by unfold szE; split <;> (try split) <;> omega)
  generalize szE m = N at *
  go_wp2_with (at_make; go_must (refine wpList_make_full _ rfl (.tmp 28) (.tmp 28) 27 rfl w3.heap.size 3 i0 _ 1 Try.underlying27 hi hz0 hz1 .i64 .i64 (N : Int) (N : Int) N rfl rfl rfl rfl (by rw [hz2]; omega) (by unfold maxLen; omega) (Nat.le_refl _) ?_; intro w4 ho4 hg4; have HM4 := Lib.hid (OwI.first ho4); have HG4 := Lib.hid hg4; clear ho4 hg4 hi hz0 hz1 hz2))
  have HE4 := Lib.hid (HE3.out.keep HG4.out)
  have HI4 := Lib.hid (HI3.out.keep HG4.out)
  have HJ4 := Lib.hid (HJ3.out.keep HG4.out)
  have HEB := Lib.hid (show E ≠ [] → ∀ ad, A = some ad → ad.block < w3.heap.size from fun h0 ad e => by subst e; exact eds_lt HE3.out h0)
  have HIB := Lib.hid (show G2 ≠ [] → ∀ ad, A1 = some ad → ad.block < w3.heap.size from fun h0 ad e => by subst e; exact HI3.out.lt h0)
  have HJB := Lib.hid (show O ≠ [] → ∀ ad, A2 = some ad → ad.block < w3.heap.size from fun h0 ad e => by subst e; exact HJ3.out.lt h0)
  have HGG := Lib.hid (grownBy_trans HG3.out HG4.out)
  have hww := HG3.out.size
  clear HE3 HI3 HJ3 HG3 HG4
  generalize w3.heap.size = r at *
  go_loopw [9] (fun i wi => ∃ (k : Nat) (T : List Int), k ≤ O.length ∧ i = .int .i64 k ∧ Hid (PsT N O k T) ∧ Hid (OwI r wi r N T) ∧ Hid (SameB r w4 wi) ∧ Hid (w.grownBy wi none)) (fun i _ => O.length - (intOf i).toNat)
  case atStart => exact ⟨0, _, Nat.zero_le _, rfl, PsT.first N O, HM4, SameB.refl _ _, HGG⟩
  case round =>
    obtain ⟨k, T, hk, rfl, HP, HM, HSB, HGW⟩ := hrel
    have HEW := Lib.hid (HSB.out.eds HE4.out HEB.out)
    have HIW := Lib.hid (HSB.out.ints HI4.out HIB.out)
    have HJW := Lib.hid (HSB.out.ints HJ4.out HJB.out)
    obtain ⟨w5, hw5⟩ : ∃ x, x = wr := ⟨_, rfl⟩
    subst hw5
    obtain rfl : T.length = N := HP.out.1
    by_cases hkx : k < O.length
    · obtain ⟨x, hx⟩ : ∃ x, O[k]? = some x := ⟨_, List.getElem?_eq_getElem hkx⟩
      obtain ⟨v, rfl, hnx⟩ := HOR.out.1 k x hx
      have hvN : v < T.length := by
        have := (List.getElem?_eq_some_iff.1 hnx.1.1).1
        rwa [HGR.out.1] at this
      have HV := Lib.hid hnx.1.1
      obtain ⟨ad, rfl, hx9⟩ := HJW.out.at_ hkx
      clear hx9
      obtain ⟨bd, rfl, hx9⟩ := HIW.out.at_ (show v < G2.length by rw [HGR.out.1]; exact hvN)
      clear hx9 hnx
      have hc1 := HJW.out.cellOf hx
      have hc2 := HIW.out.cellOf HV.out
      have hc3 := HM.out.cell (HP.out.zero HOR.out hx hvN)
      have HX := Lib.hid hx
      clear hx
      go_upto_region 9 with fail
      go_quiet (fail)
      have HMQ := Lib.hid (HM.out.gr (gr_drewN (grownBy_refl w5 none) nq))
      have HSQ := Lib.hid (HSB.out.step (gr_drewN (grownBy_refl w5 none) nq) (Nat.le_of_lt HM.out.lt.2) (fun q hq => by cases hq))
      have HGQ := Lib.hid (gr_drewN HGW.out nq)
      have HJQ := Lib.hid (HJW.out.keep (gr_drewN (grownBy_refl w5 none) nq))
      generalize w5.drewN nq = w6 at *
      have hd1 := HJQ.out.cellOf HX.out
      have hd2 := HMQ.out.fr v
      have hd3 := HMQ.out.cell (HP.out.zero HOR.out HX.out hvN)
      have HST := Lib.hid (HMQ.out.set v ((k : Int) + 1))
      clear hc1 hc2 hc3
      go_wp2_with fail
      go_roundw
      case rel => exact ⟨k + 1, T.set v ((k : Int) + 1), by omega, by go_num, HP.out.next HX.out, HST.out.1, HSQ.out.step HST.out.2 (Nat.le_of_lt HMQ.out.lt.2) (fun q hq => by injection hq with hq; omega), gr_own HGQ.out HST.out.2 (fun q hq => by injection hq with hq; omega)⟩
      case measure => simp [intOf]; omega
    · obtain rfl : k = O.length := by omega
      clear hk hkx
      go_wp2_with fail
      go_loopw [10] (fun i wi => ∃ v : Nat, v ≤ T.length ∧ i = .int .i64 v ∧ w5 = wi) (fun i _ => T.length - (intOf i).toNat)
      case atStart => exact ⟨0, Nat.zero_le _, rfl, rfl⟩
      case round =>
        obtain ⟨v, hv, rfl, hwr⟩ := hrel
        subst hwr
        by_cases hvk : v < T.length
        · obtain ⟨x, k, hx, hxa, hy, hk⟩ := or_top HGR.out HOR.out hvk
          obtain ⟨bd, rfl, hx9⟩ := HIW.out.at_ (show v < G2.length by rw [HGR.out.1]; exact hvk)
          clear hx9
          have hc2 := HIW.out.cellOf hx
          have hc3 := HM.out.cell (HP.out.done HOR.out hk (by omega))
          have hxT : x < T.length := by omega
          obtain ⟨z, hz⟩ : ∃ z : Int, z = (k : Int) + 1 := ⟨_, rfl⟩
          rw [← hz] at hc3
          have e1 : (z == 0) = false := by simp; omega
          clear hz hx hy hk
          go_wp2_with fail
          go_roundw
          case rel => exact ⟨v + 1, by omega, by go_num, (by first | rfl | trivial)⟩
          case measure => simp [intOf]; omega
        · obtain rfl : v = T.length := by omega
          go_wp2_with fail
          clear hvk hv
          go_loopw [11] (fun i wi => ∃ q : Nat, q ≤ E.length ∧ i = .int .i64 q ∧ Hid (w5.grownBy wi none)) (fun i _ => E.length - (intOf i).toNat)
          case atStart => exact ⟨0, Nat.zero_le _, rfl, grownBy_refl _ _⟩
          case round =>
            obtain ⟨q, hq, rfl, HGX⟩ := hrel
            obtain ⟨w7, hw7⟩ : ∃ x, x = wr := ⟨_, rfl⟩
            subst hw7
            by_cases hqe : q < E.length
            · have HX := Lib.hid (show E[q]? = some E[q] from List.getElem?_eq_getElem hqe)
              generalize E[q] = e at HX
              obtain ⟨ad, rfl⟩ := HEW.out.some_ hqe
              have HIX := Lib.hid (HIW.out.keep HGX.out)
              have HMX := Lib.hid (HM.out.gr HGX.out)
              obtain ⟨hc1, _, hc2⟩ := eds_cells (HEW.out.keep HGX.out) HX.out
              obtain ⟨fr, pc, tt⟩ := e
              try dsimp only at hc1 hc2
              go_upto_region 22 with fail
              clear hc1 hc2
              by_cases h1 : 0 ≤ fr
              · have hd1 : decide (0 ≤ fr) = true := decide_eq_true h1
                by_cases h2 : fr < (T.length : Int)
                · have hd2 : decide (fr < (T.length : Int)) = true := decide_eq_true h2
                  by_cases h3 : 0 ≤ tt
                  · have hd3 : decide (0 ≤ tt) = true := decide_eq_true h3
                    by_cases h4 : tt < (T.length : Int)
                    · obtain ⟨a, rfl⟩ : ∃ a : Nat, fr = a := ⟨fr.toNat, by omega⟩
                      obtain ⟨b, rfl⟩ : ∃ b : Nat, tt = b := ⟨tt.toNat, by omega⟩
                      have ha : a < T.length := by omega
                      have hb : b < T.length := by omega
                      have hab : (a, b) ∈ prs T.length E := prs_mem.2 ⟨ha, hb, _, List.mem_of_getElem? HX.out, rfl, rfl⟩
                      obtain ⟨x, i, hx, hxa, _, hi⟩ := or_top HGR.out HOR.out ha
                      obtain ⟨y, j, hy, hyb, _, hj⟩ := or_top HGR.out HOR.out hb
                      have hij := or_edge HOR.out hab hx hy hi hj
                      obtain ⟨bd, rfl, hx9⟩ := HIX.out.at_ (show a < G2.length by rw [HGR.out.1]; exact ha)
                      clear hx9
                      have hxT : x < T.length := by omega
                      have hyT : y < T.length := by omega
                      have hca := HIX.out.cellOf hx
                      have hcb := HIX.out.cellOf hy
                      have htx := HMX.out.cell (HP.out.done HOR.out hi hxT)
                      have hty := HMX.out.cell (HP.out.done HOR.out hj hyT)
                      obtain ⟨tx, hz1⟩ : ∃ z : Int, z = (i : Int) + 1 := ⟨_, rfl⟩
                      obtain ⟨ty, hz2⟩ : ∃ z : Int, z = (j : Int) + 1 := ⟨_, rfl⟩
                      rw [← hz1] at htx
                      rw [← hz2] at hty
                      have hd5 : decide (ty < tx) = false := decide_eq_false (by omega)
                      have hd4 : decide (a < T.length) = true := decide_eq_true ha
                      have hd6 : decide (b < T.length) = true := decide_eq_true hb
                      have hd7 : decide ((b : Int) < (T.length : Int)) = true := decide_eq_true h4
                      clear h1 h2 h3 h4 hz1 hz2 hi hj hx hy hij hab
                      go_quiet (fail)
                      go_wp2_with fail
                      go_roundw
                      case rel => exact ⟨q + 1, by omega, by go_num, gr_drewN HGX.out _⟩
                      case measure => simp [intOf]; omega
                    · have hd4 : decide (tt < (T.length : Int)) = false := decide_eq_false h4
                      go_quiet (fail)
                      go_wp2_with fail
                      go_roundw
                      case rel => exact ⟨q + 1, by omega, by go_num, gr_drewN HGX.out _⟩
                      case measure => simp [intOf]; omega
                  · have hd3 : decide (0 ≤ tt) = false := decide_eq_false h3
                    go_quiet (fail)
                    go_wp2_with fail
                    go_roundw
                    case rel => exact ⟨q + 1, by omega, by go_num, gr_drewN HGX.out _⟩
                    case measure => simp [intOf]; omega
                · have hd2 : decide (fr < (T.length : Int)) = false := decide_eq_false h2
                  go_quiet (fail)
                  go_wp2_with fail
                  go_roundw
                  case rel => exact ⟨q + 1, by omega, by go_num, gr_drewN HGX.out _⟩
                  case measure => simp [intOf]; omega
              · have hd1 : decide (0 ≤ fr) = false := decide_eq_false h1
                go_quiet (fail)
                go_wp2_with fail
                go_roundw
                case rel => exact ⟨q + 1, by omega, by go_num, gr_drewN HGX.out _⟩
                case measure => simp [intOf]; omega
            · obtain rfl : q = E.length := by omega
              have HEND := Lib.hid (grownBy_trans HGW.out HGX.out)
              rcases HSZ.out with h | h
              · go_wp2_with fail
                go_ret
                exact ⟨rfl, HEND.out⟩
              · have e1 : ((T.length : Int) == m) = true := by simp [h]
                have hd : decide (m < 0) = false := decide_eq_false (by omega)
                have hnm : ¬ m < 0 := by omega
                clear h
                go_wp2_with fail
                go_ret
                exact ⟨rfl, HEND.out⟩

end Go.Proofs.Ytneehdjaaofjaaa
