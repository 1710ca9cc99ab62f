/- container/heap: Pop; take. -/
import Derived.Test.YtneehdjaaofjaaaEq
import Derived.Deep.DeepCutAuto
import Derived.Handy
namespace Go.Proofs.Ytneehdjaaofjaaa
open Go.RowKit
theorem dnI_pop {L : List Int} {n : Nat} (h : HpN L L.length) (hn : L.length = n + 1) : DnI (swp L 0 n) 0 n := by
  have S := fun q => swp_at (L := L) (i := 0) (j := n) (by omega) (by omega) q
  refine ⟨by rw [swp_len]; omega, fun k h0 hk hp => ?_, fun k _ _ _ h => by omega⟩
  rw [S, S, if_neg (by omega), if_neg hp, if_neg (by omega), if_neg (by omega)]
  exact h k h0 (by omega)
theorem last_of {L : List Int} {n : Nat} (hn : L.length = n + 1) : L = L.take n ++ [gI L n] := by
  have hl : n < L.length := by omega
  have e1 : gI L n = L[n] := by unfold gI; rw [List.getElem?_eq_getElem hl]; rfl
  rw [e1]
  have h := List.take_succ_eq_append_getElem hl
  rw [List.take_of_length_le (by omega)] at h
  exact h
theorem gI_take {L : List Int} {n k : Nat} (hk : k < n) : gI (L.take n) k = gI L k := by
  unfold gI
  rw [List.getElem?_take, if_pos hk]
theorem gI_mem {L : List Int} {y : Int} (h : y ∈ L) : ∃ k, k < L.length ∧ gI L k = y := by
  obtain ⟨k, hk⟩ := List.getElem?_of_mem h
  have hl := (List.getElem?_eq_some_iff.1 hk).1
  exact ⟨k, hl, by unfold gI; rw [hk]; rfl⟩
def TakeP (m : Nat) (v : Value) (L : List Int) (W : World) (k : Int → Value) (e : Ending) (w' : World) : Prop :=
  ∃ (x : Int) (v' : Value) (L' : List Int), e = .returned (k x) ∧ (L' ++ [x]).Perm L ∧ (∀ y ∈ L, x ≤ y) ∧ Heap w' m v' L' ∧ HpT W w' m v v'
set_option maxRecDepth 100000 in
set_option maxHeartbeats 4000000 in
theorem hpPop_any (m : Nat) (v : Value) (L : List Int) (W : World) (h : Heap W m v L) (h0 : 0 < L.length) (hl : L.length ≤ 100000) :
    Calls Try.prog 34 #[.iface 46 (.pointer (some ⟨m, 0, none⟩))] W (TakeP m v L W fun x => .iface 3 (.int .i64 x)) := by
  obtain ⟨n, hn⟩ : ∃ n, L.length = n + 1 := ⟨L.length - 1, by omega⟩
  have H := Lib.hid h
  obtain ⟨b, c, rfl, hbm⟩ := h.at_.some_ h0
  have hml := meth_len m _ W h.at_.cell
  have hms := meth_swap m _ W h.at_.cell
  have HSW := Lib.hid (swap_hp m b c L L.length W h.at_ rfl hbm 0 n (by omega) (by omega))
  have hw : IntKind.i64.wrap ((L.length : Int) - 1) = (n : Int) := by rw [IntKind.wrap_i64]; omega
  have HN := Lib.hid hn
  clear h hn
  go_enter Try.func34, Try.ntmps34
  go_wp2_with (go_at_call 25; refine (silen_any _ _ _ _).mono ?_; rintro e w' ⟨rfl, rfl⟩)
  refine (show Calls Try.prog 79 #[.slice (some ⟨b, 0, none⟩) L.length c, .int .i64 0, .int .i64 (n : Int)] W _ from HSW.out).mono ?_
  rintro e w1 ⟨rfl, hv1, ht1⟩
  have HV1 := Lib.hid hv1
  have HT1 := Lib.hid ht1
  have HDN := Lib.hid (down_any m _ (swp L 0 n) n w1 hv1 (dnI_pop H.out.hp HN.out) (by rw [swp_len]; have := HN.out; omega) (by rw [swp_len]; omega))
  clear hv1 ht1 hml hms HSW hw
  go_wp2_with fail
  refine HDN.out.mono ?_
  rintro e w2 ⟨bo, rfl, L2, hp2, hh2, hf2, hv2, ht2⟩
  have hl2 : L2.length = n + 1 := by rw [hp2.length_eq, swp_len]; exact HN.out
  have HX := Lib.hid (show gI L2 n = gI L 0 by rw [hf2 n (Nat.le_refl _), swp_at (by omega) (by have := HN.out; omega), if_pos rfl])
  have HLA := Lib.hid (last_of hl2)
  have HP2 := Lib.hid (hp2.trans (swp_perm (L := L) (i := 0) (j := n) (by omega) (by have := HN.out; omega)))
  have HH2 := Lib.hid hh2
  have HL2 := Lib.hid hl2
  have HT2 := Lib.hid (HT1.out.trans ht2)
  have HPO := Lib.hid (srPop_any m _ (L2.take n) (gI L2 n) w2 (by rw [← last_of hl2]; exact hv2) (by rw [List.length_take]; have := HN.out; omega))
  have hmp := meth_pop (.pointer (some ⟨m, 0, none⟩)) w2
  clear hp2 hh2 hf2 hv2 ht2 hl2
  go_wp2_with fail
  refine HPO.out.mono ?_
  rintro e w3 ⟨v3, rfl, hv3, ht3⟩
  have HV3 := Lib.hid hv3
  have HT3 := Lib.hid (HT2.out.trans ht3)
  clear hv3 ht3 hmp
  go_wp2_with fail
  go_ret
  have h1 := HP2.out
  rw [HLA.out] at h1
  refine ⟨gI L2 n, v3, L2.take n, rfl, h1, fun y hy => ?_, ⟨HV3.out, fun k k0 kn => ?_⟩, HT3.out⟩
  · obtain ⟨k, hk, rfl⟩ := gI_mem hy
    rw [HX.out]
    exact H.out.hp.least k hk
  · have := HL2.out
    rw [List.length_take] at kn
    rw [gI_take (by omega), gI_take (by omega)]
    exact HH2.out k k0 (by omega)
set_option maxRecDepth 100000 in
set_option maxHeartbeats 4000000 in
theorem take_any (m : Nat) (v : Value) (L : List Int) (W : World) (h : Heap W m v L) (h0 : 0 < L.length) (hl : L.length ≤ 100000) :
    Calls Try.prog 26 #[.pointer (some ⟨m, 0, none⟩)] W (TakeP m v L W fun x => .int .i64 x) := by
  have HP := Lib.hid (hpPop_any m v L W h h0 hl)
  have hta : ∀ (x : Int) (W : World), (Instr.typeAssert (.iface 3 (.int .i64 x)) 20 3 false).run Try.prog W = .ok (.int .i64 x) W := fun x W => ta_is _ W
  clear h
  go_enter Try.func26, Try.ntmps26
  go_wp2_with fail
  refine HP.out.mono ?_
  rintro e w1 ⟨x, v1, L1, rfl, h1⟩
  have HE := Lib.hid h1
  clear h1
  go_wp2_with fail
  go_ret
  exact ⟨x, v1, L1, rfl, HE.out⟩

end Go.Proofs.Ytneehdjaaofjaaa
