/- container/heap: down. -/
import Derived.Test.YtneehdjaaofjaaaEo
import Derived.Deep.DeepCutAuto
import Derived.Handy
namespace Go.Proofs.Ytneehdjaaofjaaa
open Go.RowKit
def DownP (m : Nat) (v : Value) (L : List Int) (n : Nat) (W : World) (e : Ending) (w' : World) : Prop :=
  ∃ bo : Bool, e = .returned (.bool bo) ∧ ∃ L' : List Int, L'.Perm L ∧ HpN L' n ∧ (∀ k, n ≤ k → gI L' k = gI L k) ∧ HpV w' m v L' ∧ HpT W w' m v v
set_option maxRecDepth 100000 in
set_option maxHeartbeats 8000000 in
theorem down_any (m : Nat) (v : Value) (L : List Int) (n : Nat) (W : World) (h : HpV W m v L) (hd : DnI L 0 n) (hnl : n < L.length) (hl : L.length ≤ 1000000) :
    Calls Try.prog 40 #[.iface 46 (.pointer (some ⟨m, 0, none⟩)), .int .i64 0, .int .i64 n] W (DownP m v L n W) := by
  have H := Lib.hid h
  have HD := Lib.hid hd
  obtain ⟨b, c, rfl, hbm⟩ := h.some_ (by omega)
  clear h hd
  go_enter Try.func40, Try.ntmps40
  go_wp2_with fail
  go_loopw [7] (fun q wr => ∃ (i : Nat) (L1 : List Int), q = .int .i64 i ∧ i ≤ n ∧ Hid (DnI L1 i n) ∧ Hid (L1.Perm L) ∧ Hid (L.length = L1.length) ∧ Hid (∀ k, n ≤ k → gI L1 k = gI L k) ∧ Hid (HpV wr m (.slice (some ⟨b, 0, none⟩) L.length c) L1) ∧ Hid (HpT W wr m (.slice (some ⟨b, 0, none⟩) L.length c) (.slice (some ⟨b, 0, none⟩) L.length c))) (fun q _ => n - (intOf q).toNat)
  case atStart => exact ⟨0, L, rfl, Nat.zero_le _, HD, List.Perm.refl _, Lib.hid rfl, Lib.hid (fun _ _ => rfl), H, HpT.refl _ _ _⟩
  case round =>
    obtain ⟨i, L1, rfl, hi, HD, HP, HN1, HF, HV, HT⟩ := hrel
    by_cases hlf : n ≤ 2 * i + 1
    · go_wp2_with fail
      go_ret
      exact ⟨_, rfl, L1, HP.out, HD.out.leaf hlf, HF.out, HV.out, HT.out⟩
    · have h21 : 2 * i + 1 < n := by omega
      clear hlf
      obtain ⟨j1, hj1⟩ : ∃ j1, j1 = 2 * i + 1 := ⟨_, rfl⟩
      have HJ1 := Lib.hid hj1
      have hm2 : 2 * (i : Int) + 1 = (j1 : Int) := by omega
      have hj1n : j1 < n := by omega
      have hij : i < j1 := by omega
      clear hj1 h21
      by_cases h2 : j1 + 1 < n
      · have hml := meth_less m _ wr HV.out.cell
        obtain ⟨j2, hj2⟩ : ∃ j2, j2 = j1 + 1 := ⟨_, rfl⟩
        have hm3 : (j1 : Int) + 1 = (j2 : Int) := by omega
        have hj2n : j2 < n := by omega
        have hj12 : j1 < j2 := by omega
        have HJ2 := Lib.hid hj2
        have HLE := less_any b L.length c 0 L1 wr HV.out.own HN1.out j2 j1 (by omega) (by omega)
        clear hj2 h2
        by_cases hlt : gI L1 j2 < gI L1 j1
        · rw [decide_eq_true hlt] at HLE
          have HLE := Lib.hid HLE
          have HMN := Lib.hid (show ∀ c, c < n → (c = 2 * i + 1 ∨ c = 2 * i + 2) → gI L1 j2 ≤ gI L1 c from fun c _ hc => by
            have h1 := HJ1.out
            have h2 := HJ2.out
            rcases hc with rfl | rfl
            · rw [← h1]; omega
            · rw [show 2 * i + 2 = j2 by omega]; omega)
          clear hlt
          go_wp2_with fail
          refine HLE.out.mono ?_
          rintro e w5 ⟨rfl, hg5⟩
          have HV5 := Lib.hid (HV.out.gr hg5)
          have HT5 := Lib.hid (HT.out.trans (HpT.of_gr hg5 (fun k hk => by cases hk)))
          have HJ1' := HJ1
          clear hg5 hml HLE
          replace HJ1 : Hid (j2 = 2 * i + 1 ∨ j2 = 2 * i + 2) := Lib.hid (by have := HJ1.out; have := HJ2.out; omega)
          have HLE2 := less_any b L.length c 0 L1 w5 HV5.out.own HN1.out j2 i (by omega) (by omega)
          have hml2 := meth_less m _ w5 HV5.out.cell
          by_cases hlt2 : gI L1 j2 < gI L1 i
          · rw [decide_eq_true hlt2] at HLE2
            have HLT2 := Lib.hid hlt2
            have HLE2 := Lib.hid HLE2
            clear hlt2
            go_wp2_with fail
            refine HLE2.out.mono ?_
            rintro e w7 ⟨rfl, hg7⟩
            have HV7 := Lib.hid (HV5.out.gr hg7)
            have HT7 := Lib.hid (HT5.out.trans (HpT.of_gr hg7 (fun k hk => by cases hk)))
            have hms := meth_swap m _ w7 HV7.out.cell
            have HSW := Lib.hid (swap_hp m b c L1 L.length w7 HV7.out HN1.out hbm i j2 (by omega) (by omega))
            clear hml2 hg7
            go_wp2_with fail
            refine HSW.out.mono ?_
            rintro e w8 ⟨rfl, hv8, ht8⟩
            have HV8 := Lib.hid hv8
            have HT8 := Lib.hid (HT7.out.trans ht8)
            clear hms hv8 ht8
            go_wp2_with fail
            go_roundw
            case rel => exact ⟨j2, swp L1 i j2, rfl, by omega, Lib.hid (HD.out.next (by omega) (by have := HJ1.out; omega) HMN.out HLT2.out), Lib.hid ((swp_perm (by have := HN1.out; omega) (by have := HN1.out; omega)).trans HP.out), Lib.hid (by rw [swp_len]; exact HN1.out), Lib.hid (fun k hk => by
              rw [swp_at (by have := HN1.out; omega) (by have := HN1.out; omega), if_neg (by omega), if_neg (by omega)]
              exact HF.out k hk), HV8, HT8⟩
            case measure => simp [intOf]; omega
          · rw [decide_eq_false hlt2] at HLE2
            have HLT2 := Lib.hid hlt2
            have HLE2 := Lib.hid HLE2
            clear hlt2
            go_wp2_with fail
            refine HLE2.out.mono ?_
            rintro e w7 ⟨rfl, hg7⟩
            have HV7 := Lib.hid (HV5.out.gr hg7)
            have HT7 := Lib.hid (HT5.out.trans (HpT.of_gr hg7 (fun k hk => by cases hk)))
            clear hg7 hml2
            go_wp2_with fail
            go_ret
            exact ⟨_, rfl, L1, HP.out, HD.out.done HMN.out (by have := HLT2.out; omega), HF.out, HV7.out, HT7.out⟩
          
        · rw [decide_eq_false hlt] at HLE
          have HLE := Lib.hid HLE
          have HMN := Lib.hid (show ∀ c, c < n → (c = 2 * i + 1 ∨ c = 2 * i + 2) → gI L1 j1 ≤ gI L1 c from fun c _ hc => by
            have h1 := HJ1.out
            have h2 := HJ2.out
            rcases hc with rfl | rfl
            · rw [← h1]; omega
            · rw [show 2 * i + 2 = j2 by omega]; omega)
          clear hlt
          go_wp2_with fail
          refine HLE.out.mono ?_
          rintro e w5 ⟨rfl, hg5⟩
          have HV5 := Lib.hid (HV.out.gr hg5)
          have HT5 := Lib.hid (HT.out.trans (HpT.of_gr hg5 (fun k hk => by cases hk)))
          clear hg5 hml HLE
          have HLE2 := less_any b L.length c 0 L1 w5 HV5.out.own HN1.out j1 i (by omega) (by omega)
          have hml2 := meth_less m _ w5 HV5.out.cell
          by_cases hlt2 : gI L1 j1 < gI L1 i
          · rw [decide_eq_true hlt2] at HLE2
            have HLT2 := Lib.hid hlt2
            have HLE2 := Lib.hid HLE2
            clear hlt2
            go_wp2_with fail
            refine HLE2.out.mono ?_
            rintro e w7 ⟨rfl, hg7⟩
            have HV7 := Lib.hid (HV5.out.gr hg7)
            have HT7 := Lib.hid (HT5.out.trans (HpT.of_gr hg7 (fun k hk => by cases hk)))
            have hms := meth_swap m _ w7 HV7.out.cell
            have HSW := Lib.hid (swap_hp m b c L1 L.length w7 HV7.out HN1.out hbm i j1 (by omega) (by omega))
            clear hml2 hg7
            go_wp2_with fail
            refine HSW.out.mono ?_
            rintro e w8 ⟨rfl, hv8, ht8⟩
            have HV8 := Lib.hid hv8
            have HT8 := Lib.hid (HT7.out.trans ht8)
            clear hms hv8 ht8
            go_wp2_with fail
            go_roundw
            case rel => exact ⟨j1, swp L1 i j1, rfl, by omega, Lib.hid (HD.out.next (by omega) (by have := HJ1.out; omega) HMN.out HLT2.out), Lib.hid ((swp_perm (by have := HN1.out; omega) (by have := HN1.out; omega)).trans HP.out), Lib.hid (by rw [swp_len]; exact HN1.out), Lib.hid (fun k hk => by
              rw [swp_at (by have := HN1.out; omega) (by have := HN1.out; omega), if_neg (by omega), if_neg (by omega)]
              exact HF.out k hk), HV8, HT8⟩
            case measure => simp [intOf]; omega
          · rw [decide_eq_false hlt2] at HLE2
            have HLT2 := Lib.hid hlt2
            have HLE2 := Lib.hid HLE2
            clear hlt2
            go_wp2_with fail
            refine HLE2.out.mono ?_
            rintro e w7 ⟨rfl, hg7⟩
            have HV7 := Lib.hid (HV5.out.gr hg7)
            have HT7 := Lib.hid (HT5.out.trans (HpT.of_gr hg7 (fun k hk => by cases hk)))
            clear hg7 hml2
            go_wp2_with fail
            go_ret
            exact ⟨_, rfl, L1, HP.out, HD.out.done HMN.out (by have := HLT2.out; omega), HF.out, HV7.out, HT7.out⟩
          
      · have HMN := Lib.hid (show ∀ c, c < n → (c = 2 * i + 1 ∨ c = 2 * i + 2) → gI L1 j1 ≤ gI L1 c from fun c hcn hc => by
          have h1 := HJ1.out
          rcases hc with rfl | rfl
          · rw [← h1]; omega
          · omega)
        have HLE2 := less_any b L.length c 0 L1 wr HV.out.own HN1.out j1 i (by omega) (by omega)
        have hml2 := meth_less m _ wr HV.out.cell
        by_cases hlt2 : gI L1 j1 < gI L1 i
        · rw [decide_eq_true hlt2] at HLE2
          have HLT2 := Lib.hid hlt2
          have HLE2 := Lib.hid HLE2
          clear hlt2
          go_wp2_with fail
          refine HLE2.out.mono ?_
          rintro e w7 ⟨rfl, hg7⟩
          have HV7 := Lib.hid (HV.out.gr hg7)
          have HT7 := Lib.hid (HT.out.trans (HpT.of_gr hg7 (fun k hk => by cases hk)))
          have hms := meth_swap m _ w7 HV7.out.cell
          have HSW := Lib.hid (swap_hp m b c L1 L.length w7 HV7.out HN1.out hbm i j1 (by omega) (by omega))
          clear hml2 hg7
          go_wp2_with fail
          refine HSW.out.mono ?_
          rintro e w8 ⟨rfl, hv8, ht8⟩
          have HV8 := Lib.hid hv8
          have HT8 := Lib.hid (HT7.out.trans ht8)
          clear hms hv8 ht8
          go_wp2_with fail
          go_roundw
          case rel => exact ⟨j1, swp L1 i j1, rfl, by omega, Lib.hid (HD.out.next (by omega) (by have := HJ1.out; omega) HMN.out HLT2.out), Lib.hid ((swp_perm (by have := HN1.out; omega) (by have := HN1.out; omega)).trans HP.out), Lib.hid (by rw [swp_len]; exact HN1.out), Lib.hid (fun k hk => by
            rw [swp_at (by have := HN1.out; omega) (by have := HN1.out; omega), if_neg (by omega), if_neg (by omega)]
            exact HF.out k hk), HV8, HT8⟩
          case measure => simp [intOf]; omega
        · rw [decide_eq_false hlt2] at HLE2
          have HLT2 := Lib.hid hlt2
          have HLE2 := Lib.hid HLE2
          clear hlt2
          go_wp2_with fail
          refine HLE2.out.mono ?_
          rintro e w7 ⟨rfl, hg7⟩
          have HV7 := Lib.hid (HV.out.gr hg7)
          have HT7 := Lib.hid (HT.out.trans (HpT.of_gr hg7 (fun k hk => by cases hk)))
          clear hg7 hml2
          go_wp2_with fail
          go_ret
          exact ⟨_, rfl, L1, HP.out, HD.out.done HMN.out (by have := HLT2.out; omega), HF.out, HV7.out, HT7.out⟩
        
end Go.Proofs.Ytneehdjaaofjaaa
