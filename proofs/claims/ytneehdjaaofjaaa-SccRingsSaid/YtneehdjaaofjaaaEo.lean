/- container/heap: up, down. -/
import Derived.Test.YtneehdjaaofjaaaEn
import Derived.Deep.DeepCutAuto
import Derived.Handy
namespace Go.Proofs.Ytneehdjaaofjaaa
open Go.RowKit
/-- Two numbers have changed places. -/
theorem swap_hp (m b c : Nat) (L : List Int) (n : Nat) (W : World) (h : HpV W m (.slice (some ⟨b, 0, none⟩) n c) L) (hn : n = L.length) (hbm : b ≠ m) (i j : Nat) (hi : i < n) (hj : j < n) :
    Calls Try.prog 79 #[.slice (some ⟨b, 0, none⟩) n c, .int .i64 i, .int .i64 j] W fun e w' => e = .returned (.tuple #[]) ∧ HpV w' m (.slice (some ⟨b, 0, none⟩) n c) (swp L i j) ∧ HpT W w' m (.slice (some ⟨b, 0, none⟩) n c) (.slice (some ⟨b, 0, none⟩) n c) :=
  (swap_any b n c 0 L W h.own hn i j hi hj).mono fun e w' ⟨he, ho, hg⟩ => ⟨he, ⟨(hg.block m (lt_of_heap h.box) (by intro e; injection e with e; exact hbm e.symm)).trans h.box, ho⟩, HpT.of_gr hg fun k hk => .inr (by injection hk with hk; subst hk; rfl)⟩
set_option maxRecDepth 100000 in
set_option maxHeartbeats 4000000 in
theorem up_any (m : Nat) (v : Value) (L : List Int) (j : Nat) (W : World) (h : HpV W m v L) (hu : UpI L j) (hl : L.length ≤ 1000000) :
    Calls Try.prog 39 #[.iface 46 (.pointer (some ⟨m, 0, none⟩)), .int .i64 j] W fun e w' => ∃ L' : List Int, e = .returned (.tuple #[]) ∧ L'.Perm L ∧ HpN L' L'.length ∧ HpV w' m v L' ∧ HpT W w' m v v := by
  have H := Lib.hid h
  have HU := Lib.hid hu
  have hj := hu.lt
  obtain ⟨b, c, rfl, hbm⟩ := h.some_ (by omega)
  clear h hu
  go_enter Try.func39, Try.ntmps39
  go_wp2_with fail
  go_loopw [1] (fun i wr => ∃ (j : Nat) (L1 : List Int), i = .int .i64 j ∧ j < L.length ∧ Hid (UpI L1 j) ∧ Hid (L1.Perm L) ∧ Hid (L.length = L1.length) ∧ Hid (HpV wr m (.slice (some ⟨b, 0, none⟩) L.length c) L1) ∧ Hid (HpT W wr m (.slice (some ⟨b, 0, none⟩) L.length c) (.slice (some ⟨b, 0, none⟩) L.length c))) (fun i _ => (intOf i).toNat)
  case atStart => exact ⟨j, L, rfl, hj, HU, List.Perm.refl _, Lib.hid rfl, H, HpT.refl _ _ _⟩
  case round =>
    obtain ⟨j, L1, rfl, hj, HU, HP, HN1, HV, HT⟩ := hrel
    rcases Nat.eq_zero_or_pos j with rfl | h0
    · have hq : (IntKind.i64.wrap ((IntKind.i64.wrap (((0 : Nat) : Int) - 1)).tdiv 2)) = 0 := by decide
      go_wp2_with fail
      go_end0
      exact ⟨L1, rfl, HP.out, HU.out.done (.inl rfl), HV.out, HT.out⟩
    · obtain ⟨i, hi⟩ : ∃ i, i = (j - 1) / 2 := ⟨_, rfl⟩
      have HI := Lib.hid hi
      have hq : ((j : Int) - 1).tdiv 2 = (i : Int) := by rw [Int.tdiv_eq_ediv_of_nonneg (by omega)]; omega
      have hij : i < j := by omega
      have hne : ((i : Int) == (j : Int)) = false := by rw [beq_eq_false_iff_ne]; omega
      have hml := meth_less m _ wr HV.out.cell
      have HLE := less_any b L.length c 0 L1 wr HV.out.own HN1.out j i hj (by omega)
      clear hi
      by_cases hlt : gI L1 j < gI L1 i
      · rw [decide_eq_true hlt] at HLE
        have HLT := Lib.hid hlt
        have HLE := Lib.hid HLE
        clear hlt
        go_wp2_with fail
        refine HLE.out.mono ?_
        rintro e w5 ⟨rfl, hg5⟩
        have HV5 := Lib.hid (HV.out.gr hg5)
        have HT5 := Lib.hid (HT.out.trans (HpT.of_gr hg5 (fun k hk => by cases hk)))
        have hms := meth_swap m _ w5 HV5.out.cell
        have HSW := Lib.hid (swap_hp m b c L1 L.length w5 HV5.out HN1.out hbm i j (by omega) hj)
        clear hml hg5
        go_wp2_with fail
        refine HSW.out.mono ?_
        rintro e w6 ⟨rfl, hv6, ht6⟩
        have HV6 := Lib.hid hv6
        have HT6 := Lib.hid (HT5.out.trans ht6)
        clear hms hv6 ht6
        go_wp2_with fail
        go_roundw
        case rel => exact ⟨i, swp L1 i j, rfl, by omega, Lib.hid (by have := HU.out.next h0 (by rw [← HI.out]; exact HLT.out); rw [← HI.out] at this; exact this), Lib.hid ((swp_perm (by have := HN1.out; omega) (by have := HN1.out; omega)).trans HP.out), Lib.hid (by rw [swp_len]; exact HN1.out), HV6, HT6⟩
        case measure => simp [intOf]; omega
      · rw [decide_eq_false hlt] at HLE
        have HLT := Lib.hid hlt
        have HLE := Lib.hid HLE
        clear hlt
        go_wp2_with fail
        refine HLE.out.mono ?_
        rintro e w5 ⟨rfl, hg5⟩
        have HV5 := Lib.hid (HV.out.gr hg5)
        have HT5 := Lib.hid (HT.out.trans (HpT.of_gr hg5 (fun k hk => by cases hk)))
        clear hg5 hml
        go_wp2_with fail
        go_end0
        exact ⟨L1, rfl, HP.out, HU.out.done (.inr (by have := HLT.out; rw [← HI.out]; omega)), HV5.out, HT5.out⟩

end Go.Proofs.Ytneehdjaaofjaaa
