/- scc: how many edges lead to each. -/
import Derived.Test.YtneehdjaaofjaaaEe
import Derived.Test.YtneehdjaaofjaaaEf
import Derived.Deep.DeepCutAuto
namespace Go.Proofs.Ytneehdjaaofjaaa
open Go.RowKit
/-- How often j stands in the first q rows. -/
def cntP' (H : List (List Int)) (q : Nat) (j : Nat) : Nat := ((H.take q).map fun r => r.count (j : Int)).sum
theorem cntP'_succ {H : List (List Int)} {q : Nat} {row : List Int} (h : H[q]? = some row) (j : Nat) : cntP' H (q + 1) j = cntP' H q j + row.count (j : Int) := by
  unfold cntP'
  rw [List.take_add_one, h, List.map_append, List.sum_append]
  simp
theorem cntP'_le {H : List (List Int)} {K : Nat} (hS : Short K H) (j : Nat) : ∀ q, cntP' H q j ≤ q * K
  | 0 => by simp [cntP']
  | q + 1 => by
    have ih := cntP'_le hS j q
    rcases h : H[q]? with _ | row
    · have hl : H.length ≤ q := List.getElem?_eq_none_iff.1 h
      have : cntP' H (q + 1) j = cntP' H q j := by unfold cntP'; rw [List.take_of_length_le hl, List.take_of_length_le (by omega)]
      rw [this, Nat.add_mul]
      omega
    · rw [cntP'_succ h, Nat.add_mul]
      have := hS q row h
      have h2 : row.count (j : Int) ≤ row.length := List.count_le_length
      omega
theorem count_take {row : List Int} {k x : Nat} (h : row[k]? = some (x : Int)) (j : Nat) : (row.take (k + 1)).count (j : Int) = (row.take k).count (j : Int) + if x = j then 1 else 0 := by
  rw [List.take_add_one, h, List.count_append]
  by_cases e : x = j
  · subst e
    simp
  · rw [if_neg e]
    have : ¬ (x : Int) = (j : Int) := by omega
    simp [this]
set_option maxRecDepth 100000 in
set_option maxHeartbeats 8000000 in
theorem entries_any (R : Nat → Nat → Prop) (N c : Nat) (A : Option Addr) (H : List (List Int)) (w : World) (hG : GrAt w A H none) (hK : GrK R N H) (hS : Short 20000000 H) (hN : N ≤ 20000) :
    Calls Try.prog 23 #[.slice A N c] w fun e w' => ∃ (b : Nat) (Z : List Int), e = .returned (.slice (some ⟨b, 0, none⟩) N N) ∧ w.heap.size ≤ b ∧ OwN w.heap.size w' (.slice (some ⟨b, 0, none⟩) N N) Z ∧ Z.length = N ∧ (∀ j, j < N → Z[j]? = some ((cntP' H N j : Nat) : Int)) ∧ w.grownBy w' none := by
  have HGA := Lib.hid hG
  have HK := Lib.hid hK
  have HS := Lib.hid hS
  have HGL := Lib.hid hK.len
  clear hG hK hS
  obtain ⟨i0, hi, hz0, hz1, hz2⟩ := info_parts infoInt
  go_enter Try.func23, Try.ntmps23
  go_wp2_with (at_make; go_must (refine wpList_make_full _ rfl (.tmp 9) (.tmp 9) 27 rfl w.heap.size 3 i0 _ 1 Try.underlying27 hi hz0 hz1 .i64 .i64 (N : Int) (N : Int) N rfl rfl rfl rfl (by rw [hz2]; omega) (by unfold maxLen; omega) (Nat.le_refl _) ?_; intro w1 ho1 hg1; have HM1 := Lib.hid (OwN.made ho1); have HG1 := Lib.hid hg1; clear ho1 hg1))
  clear hi hz0 hz1 hz2
  generalize hbb : w.heap.size = b at *
  go_loopw [13] (fun i wr => ∃ (q : Nat) (Z : List Int), q ≤ N ∧ i = .int .i64 q ∧ Z.length = N ∧ Hid (OwN b wr (.slice (some ⟨b, 0, none⟩) N N) Z) ∧ Hid (∀ j, j < N → Z[j]? = some ((cntP' H q j : Nat) : Int)) ∧ Hid (w.grownBy wr none)) (fun i _ => N - (intOf i).toNat)
  case atStart => exact ⟨0, _, Nat.zero_le _, rfl, by simp, HM1, Lib.hid (fun j hj => by rw [List.getElem?_replicate, if_pos hj]; simp [cntP']), HG1⟩
  case round =>
    obtain ⟨q, Z, hq, rfl, hzl, HO, HZ, HW⟩ := hrel
    by_cases hlt : q < N
    · have hr := List.getElem?_eq_getElem (show q < H.length by rw [HGL.out]; exact hlt)
      generalize H[q]'_ = row at hr
      have HR := Lib.hid hr
      have hrl := HS.out q row hr
      obtain ⟨ad, B2, d, rfl, hc0, hI⟩ := HGA.out.row hr
      have HI := Lib.hid hI
      have hc := (World.cell?_of_block (HW.out.block _ (World.block_lt_of_cell? w _ hc0) (by simp))).trans hc0
      clear hr hc0 hI
      go_wp2_with fail
      go_loopw [19] (fun i wr => ∃ (k : Nat) (Z : List Int), k ≤ row.length ∧ i = .int .i64 k ∧ Z.length = N ∧ Hid (OwN b wr (.slice (some ⟨b, 0, none⟩) N N) Z) ∧ Hid (∀ j, j < N → Z[j]? = some ((cntP' H q j + (row.take k).count (j : Int) : Nat) : Int)) ∧ Hid (w.grownBy wr none)) (fun i _ => row.length - (intOf i).toNat)
      case atStart => exact ⟨0, Z, Nat.zero_le _, rfl, hzl, HO, Lib.hid (fun j hj => by rw [HZ.out j hj]; simp), HW⟩
      case round =>
        clear HO HZ HW hc
        obtain ⟨k, Z2, hk, rfl, hzl2, HO, HZ, HW⟩ := hrel
        have hsz := HW.out.size
        by_cases hlt2 : k < row.length
        · have hx := List.getElem?_eq_getElem hlt2
          obtain ⟨bd, rfl, hx9⟩ := HI.out.at_ hlt2
          obtain ⟨j, hxj, hj, _⟩ := HK.out.row q row HR.out _ (List.getElem_mem hlt2)
          rw [hxj] at hx
          clear hx9 hxj
          have hc1 := (HI.out.keep HW.out).cellOf hx
          have HX := Lib.hid hx
          have hzj := HZ.out j hj
          have hzb : cntP' H q j + (row.take k).count (j : Int) ≤ 400020000000 := by
            have h1 := cntP'_le HS.out j q
            have h2 : (row.take k).count (j : Int) ≤ (row.take k).length := List.count_le_length
            rw [List.length_take] at h2
            have h3 : q * 20000000 ≤ 20000 * 20000000 := Nat.mul_le_mul_right _ (by omega)
            omega
          obtain ⟨z, hz⟩ : ∃ z, z = cntP' H q j + (row.take k).count (j : Int) := ⟨_, rfl⟩
          rw [← hz] at hzj hzb
          have HZE := Lib.hid hz
          have hcz := HO.out.cell hzl2.symm hzj
          have hfr := HO.out.fr hzl2.symm j
          have HST := Lib.hid (HO.out.set hzl2.symm j (((z + 1 : Nat)) : Int))
          clear hx hzj hz
          go_wp2_with fail
          go_roundw
          case rel => exact ⟨k + 1, Z2.set j ((z + 1 : Nat) : Int), by omega, by go_num, by rw [List.length_set]; exact hzl2, Lib.hid (by simpa using HST.out.1), Lib.hid (fun j' hj' => by
            rw [List.getElem?_set, count_take HX.out]
            by_cases e : j = j'
            · subst e
              rw [if_pos rfl, if_pos (by omega), if_pos rfl, HZE.out]
              rfl
            · rw [if_neg e, if_neg e]
              exact HZ.out j' hj'), Lib.hid (by simpa using gr_own HW.out HST.out.2 (fun k hk => by injection hk with hk; have : b = k := hk; omega))⟩
          case measure => simp [intOf]; omega
        · obtain rfl : k = row.length := by omega
          go_wp2_with fail
          go_roundw
          case rel => exact ⟨q + 1, Z2, by omega, by go_num, hzl2, HO, Lib.hid (fun j hj => by
            rw [HZ.out j hj, cntP'_succ HR.out, List.take_length]), HW⟩
          case measure => simp [intOf]; omega
    · obtain rfl : q = N := by omega
      go_wp2_with fail
      go_ret
      exact ⟨b, Z, rfl, by omega, by rw [hbb]; exact HO.out, hzl, HZ.out, HW.out⟩

end Go.Proofs.Ytneehdjaaofjaaa
