/- ParseRows. -/
import Derived.Test.YtkbplcfehllbjaaGreatDoorCR4
import Derived.Test.YtkbplcfehllbjaaGreatDoorCG10
import Derived.Deep.DeepCutAuto
import Derived.Deep.CutRange
namespace Go.Proofs.YtkbplcfehllbjaaGreatDoor
open Go.RowKit
attribute [local go_sem ↓] Go.wp_at_zero Go.wp_at_succ
theorem cell_ith (w : World) {b T j : Nat} {cs : Array Value} (h : w.heap[b]? = some (.cells cs T (0, 0))) {v : Value} (hj : cs[j]? = some v) : w.cell? ⟨b, j, none⟩ = some v := by
  unfold World.cell?
  simp only [h]
  exact hj
def signCs : Array Value := #[.string ⟨#[124]⟩, .string ⟨#[94]⟩, .string ⟨#[38]⟩, .string ⟨#[61, 61]⟩, .string ⟨#[60]⟩, .string ⟨#[60, 60]⟩, .string ⟨#[43]⟩, .string ⟨#[42]⟩]
theorem sign_at : ∀ j : Nat, j < 8 → ∃ ss : ByteArray, signCs[j]? = some (.string ss) ∧ ss.data.toList ∈ signsB ∧ ss.size ≤ 2
  | 0, _ => ⟨⟨#[124]⟩, rfl, by decide, by decide⟩
  | 1, _ => ⟨⟨#[94]⟩, rfl, by decide, by decide⟩
  | 2, _ => ⟨⟨#[38]⟩, rfl, by decide, by decide⟩
  | 3, _ => ⟨⟨#[61, 61]⟩, rfl, by decide, by decide⟩
  | 4, _ => ⟨⟨#[60]⟩, rfl, by decide, by decide⟩
  | 5, _ => ⟨⟨#[60, 60]⟩, rfl, by decide, by decide⟩
  | 6, _ => ⟨⟨#[43]⟩, rfl, by decide, by decide⟩
  | 7, _ => ⟨⟨#[42]⟩, rfl, by decide, by decide⟩
  | n + 8, h => absurd h (by omega)
/-- A node in a block of its own; its parts lie below. -/
def NdAt (B : Nat) (w : World) (b : Nat) (x : Nd) : Prop := ∃ (k : Int) (tx : ByteArray) (m tk tm : Int) (nm : ByteArray) (oa : Option Addr) (on oc : Nat) (ka : Option Addr) (kn kc : Nat), AsN x k tx m tk tm nm ∧ w.heap[b]? = some (.cells #[.int .i64 k, .string tx, .int .i64 m, .int .i64 tk, .int .i64 tm, .string nm, .slice oa on oc, .slice ka kn kc] 28 (0, 0)) ∧ RepOf w (fun g => g < B) (.slice oa on oc) x.typ.of ∧ RepK w (fun g => g < B) (.slice ka kn kc) x.kids
theorem below8_same {w : World} {b B : Nat} (hb : B ≤ b) (v0 v1 v2 v3 v4 v5 v6 v7 : Value) : SameOn (fun g => g < B) w ((((((((w.setCell ⟨b, 0, none⟩ v0).setCell ⟨b, 1, none⟩ v1).setCell ⟨b, 2, none⟩ v2).setCell ⟨b, 3, none⟩ v3).setCell ⟨b, 4, none⟩ v4).setCell ⟨b, 5, none⟩ v5).setCell ⟨b, 6, none⟩ v6).setCell ⟨b, 7, none⟩ v7) := fun g hs hg => by
  have h : w.heap[g]? = some w.heap[g] := Array.getElem?_eq_getElem hg
  rw [h]
  exact blk_set8 h (by omega) v0 v1 v2 v3 v4 v5 v6 v7
theorem nd_put {B : Nat} {w : World} {b : Nat} {x : Nd} {k : Int} {tx : ByteArray} {m tk tm : Int} {nm : ByteArray} {oa : Option Addr} {on oc : Nat} {ka : Option Addr} {kn kc : Nat} {u0 u1 u2 u3 u4 u5 u6 u7 : Value} (hb : B ≤ b) (hA : AsN x k tx m tk tm nm) (hB : w.heap[b]? = some (.cells #[u0, u1, u2, u3, u4, u5, u6, u7] 28 (0, 0)))
    (ho : RepOf w (fun g => g < B) (.slice oa on oc) x.typ.of) (hk : RepK w (fun g => g < B) (.slice ka kn kc) x.kids) : NdAt B ((((((((w.setCell ⟨b, 0, none⟩ (.int .i64 k)).setCell ⟨b, 1, none⟩ (.string tx)).setCell ⟨b, 2, none⟩ (.int .i64 m)).setCell ⟨b, 3, none⟩ (.int .i64 tk)).setCell ⟨b, 4, none⟩ (.int .i64 tm)).setCell ⟨b, 5, none⟩ (.string nm)).setCell ⟨b, 6, none⟩ (.slice oa on oc)).setCell ⟨b, 7, none⟩ (.slice ka kn kc)) b x :=
  ⟨k, tx, m, tk, tm, nm, oa, on, oc, ka, kn, kc, hA, blk_put8 hB _ _ _ _ _ _ _ _, ho.mono (fun _ h _ => h) (below8_same hb _ _ _ _ _ _ _ _), hk.mono (fun _ h _ => h) (below8_same hb _ _ _ _ _ _ _ _)⟩
theorem nd_keep {B : Nat} {w : World} {b b' : Nat} {x : Nd} {v0 v1 v2 v3 v4 v5 v6 v7 : Value} (h : NdAt B w b x) (hne : b ≠ b') (hb : B ≤ b') : NdAt B ((((((((w.setCell ⟨b', 0, none⟩ v0).setCell ⟨b', 1, none⟩ v1).setCell ⟨b', 2, none⟩ v2).setCell ⟨b', 3, none⟩ v3).setCell ⟨b', 4, none⟩ v4).setCell ⟨b', 5, none⟩ v5).setCell ⟨b', 6, none⟩ v6).setCell ⟨b', 7, none⟩ v7) b x := by
  obtain ⟨k, tx, m, tk, tm, nm, oa, on, oc, ka, kn, kc, hA, hB, ho, hk⟩ := h
  exact ⟨k, tx, m, tk, tm, nm, oa, on, oc, ka, kn, kc, hA, blk_set8 hB hne _ _ _ _ _ _ _ _, ho.mono (fun _ h _ => h) (below8_same hb _ _ _ _ _ _ _ _), hk.mono (fun _ h _ => h) (below8_same hb _ _ _ _ _ _ _ _)⟩
theorem nd_put8 {B : Nat} {w : World} {b b' : Nat} {x : Nd} {k : Int} {tx : ByteArray} {m tk tm : Int} {nm : ByteArray} {oa : Option Addr} {on oc : Nat} {ka : Option Addr} {kn kc : Nat} {u0 u1 u2 u3 u4 u5 u6 u7 v0 v1 v2 v3 v4 v5 v6 v7 : Value} (hb : B ≤ b) (hb' : B ≤ b') (hne : b ≠ b') (hA : AsN x k tx m tk tm nm) (hB : w.heap[b]? = some (.cells #[u0, u1, u2, u3, u4, u5, u6, u7] 28 (0, 0)))
    (ho : RepOf w (fun g => g < B) (.slice oa on oc) x.typ.of) (hk : RepK w (fun g => g < B) (.slice ka kn kc) x.kids) : NdAt B ((((((((((((((((w.setCell ⟨b', 0, none⟩ v0).setCell ⟨b', 1, none⟩ v1).setCell ⟨b', 2, none⟩ v2).setCell ⟨b', 3, none⟩ v3).setCell ⟨b', 4, none⟩ v4).setCell ⟨b', 5, none⟩ v5).setCell ⟨b', 6, none⟩ v6).setCell ⟨b', 7, none⟩ v7).setCell ⟨b, 0, none⟩ (.int .i64 k)).setCell ⟨b, 1, none⟩ (.string tx)).setCell ⟨b, 2, none⟩ (.int .i64 m)).setCell ⟨b, 3, none⟩ (.int .i64 tk)).setCell ⟨b, 4, none⟩ (.int .i64 tm)).setCell ⟨b, 5, none⟩ (.string nm)).setCell ⟨b, 6, none⟩ (.slice oa on oc)).setCell ⟨b, 7, none⟩ (.slice ka kn kc)) b x :=
  nd_put hb hA (blk_set8 hB hne _ _ _ _ _ _ _ _) (ho.mono (fun _ h _ => h) (below8_same hb' _ _ _ _ _ _ _ _)) (hk.mono (fun _ h _ => h) (below8_same hb' _ _ _ _ _ _ _ _))
set_option maxRecDepth 100000 in
set_option maxHeartbeats 4000000 in
theorem rows_walk (a b : Nat) (ha : a < 256) (hb : b < 256) (w : World) (hv : Vars w) : Calls Tryz.prog 7 #[.int .u8 a, .int .u8 b] w fun e w' => e = .returned (.bool true) ∧ w.grownBy w' none := by
  have HV := Lib.hid hv
  clear hv
  go_enter Tryz.func7, Tryz.ntmps7
  go_wp2_with fail
  refine (shown_any w HV.out).mono ?_
  rintro e w1 ⟨rfl, hg1⟩
  have HG1 := Lib.hid hg1
  clear hg1
  go_upto_region 3 with fail
  obtain ⟨ss, hs1, hs2, hs3⟩ := sign_at (a % 8) (by omega)
  have hc := cell_ith _ (blk_new w1 (.cells signCs 9)) hs1
  have HG2 := Lib.hid (gr_alloc HG1.out (.cells signCs 9))
  unfold signCs at hc HG2
  have hbl : w1.heap.size < (w1.alloc (.cells #[.string ⟨#[124]⟩, .string ⟨#[94]⟩, .string ⟨#[38]⟩, .string ⟨#[61, 61]⟩, .string ⟨#[60]⟩, .string ⟨#[60, 60]⟩, .string ⟨#[43]⟩, .string ⟨#[42]⟩] 9)).heap.size := by simp
  generalize w1.alloc (.cells #[.string ⟨#[124]⟩, .string ⟨#[94]⟩, .string ⟨#[38]⟩, .string ⟨#[61, 61]⟩, .string ⟨#[60]⟩, .string ⟨#[60, 60]⟩, .string ⟨#[43]⟩, .string ⟨#[42]⟩] 9) = W at *
  generalize w1.heap.size = b1 at *
  have HS := Lib.hid hs2
  have hs4 := hs3
  have hk8 : a % 8 < 8 := by omega
  clear hs1 hs2 HG1
  go_wp2_with fail
  obtain ⟨c, he, hcl⟩ : ∃ c : Nat, ((b : Int) % 30) = c ∧ c < 30 := ⟨b % 30, by omega, by omega⟩
  rw [he]
  clear he hc hk8 hb ha
  go_loop [9, 10, 11] (fun r q i => ∃ (k : Nat) (R Q : ByteArray), k ≤ c + 1 ∧ R.size ≤ 5 * k + 1 ∧ Q.size ≤ 5 * k + 1 ∧ i = .int .i64 (k + 1) ∧ r = .string R ∧ q = .string Q ∧ Hid (R.data.toList = rowB ss.data.toList k) ∧ Hid (Q.data.toList = rowB [61] k)) (fun _ _ i => (c + 2 - intOf i).toNat)
  case atStart => exact ⟨0, ⟨#[97]⟩, ⟨#[97]⟩, by omega, by decide, by decide, rfl, rfl, rfl, rfl, rfl⟩
  case round =>
    obtain ⟨k, R, Q, hk, hR, hQ, rfl, rfl, rfl, HR, HQ⟩ := hrel
    by_cases hlt : k < c + 1
    · have hlt' : (k : Int) + 1 < 2 + c := by omega
      have hw : IntKind.i64.wrap ((k : Int) + 1 + 1) = k + 1 + 1 := IntWalk.i64_in _ (by omega)
      go_wp2_with fail
      go_round
      case rel => exact ⟨k + 1, _, _, by omega, by simp only [ByteArray.size_append]; show R.size + 1 + ss.size + 2 ≤ 5 * (k + 1) + 1; omega, by simp only [ByteArray.size_append]; show Q.size + 4 ≤ 5 * (k + 1) + 1; omega, by go_num, rfl, rfl, by show _ = _; simp [rowB, HR.out], by show _ = _; simp [rowB, HQ.out]⟩
      case measure => simp [intOf]; omega
    · have hk' : k = c + 1 := by omega
      subst hk'
      clear hlt hk
      have hlt' : ¬ ((c + 1 : Nat) : Int) + 1 < 2 + c := by omega
      go_wp2_with fail
      obtain ⟨sp, hsp⟩ : ∃ sp : ByteArray, (⟨#[118, 111, 105, 100, 32, 102, 40, 41, 32, 123, 32]⟩ ++ R ++ ⟨#[59, 32, 125]⟩ : ByteArray) = sp := ⟨_, rfl⟩
      rw [hsp]
      have hP : ∃ r, parseP sp.data.toList = .ok (Nd.of 23 [fnN [Nd.of 12 [rowN ss.data.toList (c + 1)]]]) r := by
        have e : sp.data.toList = preB ++ (rowB ss.data.toList (c + 1) ++ [59, 32, 125]) := by rw [← hsp, ← HR.out]; simp [preB]
        rw [e]; exact row_parse HS.out (c + 1) (by omega)
      obtain ⟨r1, hP⟩ := hP
      obtain ⟨sq, hsq⟩ : ∃ sq : ByteArray, (⟨#[118, 111, 105, 100, 32, 102, 40, 41, 32, 123, 32]⟩ ++ Q ++ ⟨#[59, 32, 125]⟩ : ByteArray) = sq := ⟨_, rfl⟩
      have HQP : Hid (∃ r, parseP sq.data.toList = .ok (Nd.of 23 [fnN [Nd.of 12 [setN (c + 1)]]]) r) := by
        have e : sq.data.toList = preB ++ (rowB [61] (c + 1) ++ [59, 32, 125]) := by rw [← hsq, ← HQ.out]; simp [preB]
        show ∃ r, _ = _
        rw [e]; exact set_parse (c + 1) (by omega)
      clear hsp HR HQ
      have HSQ := Lib.hid hsq
      clear hsq
      refine (Parse_ok (HV.out.grow HG2.out) hP).mono ?_
      rintro e w2 ⟨hg2, k, m, tk, tm, tx, nm, oa, on, oc, ka, kn, kc, rfl, -, -, hkd⟩
      have HG3 := Lib.hid (gr_alloc (grownBy_trans HG2.out hg2) (.cells #[.int .i64 k, .string tx, .int .i64 m, .int .i64 tk, .int .i64 tm, .string nm, .slice oa on oc, .slice ka kn kc] 28))
      have HB := Lib.hid (blk_new w2 (.cells #[.int .i64 k, .string tx, .int .i64 m, .int .i64 tk, .int .i64 tm, .string nm, .slice oa on oc, .slice ka kn kc] 28))
      have HK := Lib.hid (hkd.out.grow (gr_alloc (grownBy_refl w2 none) (.cells #[.int .i64 k, .string tx, .int .i64 m, .int .i64 tk, .int .i64 tm, .string nm, .slice oa on oc, .slice ka kn kc] 28)))
      clear hg2 hkd hP
      go_wp2_with fail
      rw [HSQ.out]
      generalize w2.alloc (.cells #[.int .i64 k, .string tx, .int .i64 m, .int .i64 tk, .int .i64 tm, .string nm, .slice oa on oc, .slice ka kn kc] 28) = W2 at *
      generalize w2.heap.size = b2 at *
      obtain ⟨r2, hP⟩ := HQP.out
      refine (Parse_ok (HV.out.grow HG3.out) hP).mono ?_
      rintro e w3 ⟨hg3, k', m', tk', tm', tx', nm', oa', on', oc', ka', kn', kc', rfl, -, -, hkd'⟩
      have HG4 := Lib.hid (gr_alloc (grownBy_trans HG3.out hg3) (.cells #[.int .i64 k', .string tx', .int .i64 m', .int .i64 tk', .int .i64 tm', .string nm', .slice oa' on' oc', .slice ka' kn' kc'] 28))
      have HB4 := Lib.hid (blk_alloc (blk_call HB.out hg3 (by simp)) (.cells #[.int .i64 k', .string tx', .int .i64 m', .int .i64 tk', .int .i64 tm', .string nm', .slice oa' on' oc', .slice ka' kn' kc'] 28))
      have HC4 := Lib.hid (blk_new w3 (.cells #[.int .i64 k', .string tx', .int .i64 m', .int .i64 tk', .int .i64 tm', .string nm', .slice oa' on' oc', .slice ka' kn' kc'] 28))
      have HK4 := Lib.hid (((HK.out.grow hg3).mono (S' := fun g => g < w3.heap.size) (fun g _ h => h) (fun _ _ _ => rfl)).grow (gr_alloc (grownBy_refl w3 none) (.cells #[.int .i64 k', .string tx', .int .i64 m', .int .i64 tk', .int .i64 tm', .string nm', .slice oa' on' oc', .slice ka' kn' kc'] 28)))
      have HL4 := Lib.hid ((hkd'.out.mono (S' := fun g => g < w3.heap.size) (fun g _ h => h) (fun _ _ _ => rfl)).grow (gr_alloc (grownBy_refl w3 none) (.cells #[.int .i64 k', .string tx', .int .i64 m', .int .i64 tk', .int .i64 tm', .string nm', .slice oa' on' oc', .slice ka' kn' kc'] 28)))
      have HZ4 := Lib.hid (grownBy_trans HG3.out hg3).size
      have hb3 := blk_call HB.out hg3 (by simp)
      obtain ⟨⟨d0, d1, d2, d3, d4, d5, d6, d7⟩, _⟩ := cells8_of _ _ _ _ _ _ _ _ _ _ _ hb3
      have hbl2 := lt_of_heap hb3
      clear hg3 hkd' HB HK hP hb3
      go_wp2_with fail
      clear d0 d1 d2 d3 d4 d5 d6 d7
      generalize w3.alloc (.cells #[.int .i64 k', .string tx', .int .i64 m', .int .i64 tk', .int .i64 tm', .string nm', .slice oa' on' oc', .slice ka' kn' kc'] 28) = W4 at *
      generalize w3.heap.size = b4 at *
      refine (first_any _ _ _ _ _ _ _ _ _ _ _ _ _ _ W4 HK4.out).mono ?_
      rw [first_fn]
      rintro e w5 ⟨hg5, pk, pm, px, py, pt, pn, poa, pon, poc, pka, pkn, pkc, rfl, HPA, HPO, HPK⟩
      have HG6 := Lib.hid (gr_alloc (grownBy_trans HG4.out hg5) (.cells #[.int .i64 pk, .string pt, .int .i64 pm, .int .i64 px, .int .i64 py, .string pn, .slice poa pon poc, .slice pka pkn pkc] 28))
      have HC6 := Lib.hid (blk_alloc (blk_call HC4.out hg5 (by simp)) (.cells #[.int .i64 pk, .string pt, .int .i64 pm, .int .i64 px, .int .i64 py, .string pn, .slice poa pon poc, .slice pka pkn pkc] 28))
      have HP6 := Lib.hid (blk_new w5 (.cells #[.int .i64 pk, .string pt, .int .i64 pm, .int .i64 px, .int .i64 py, .string pn, .slice poa pon poc, .slice pka pkn pkc] 28))
      have HL6 := Lib.hid ((HL4.out.grow hg5).grow (gr_alloc (grownBy_refl w5 none) (.cells #[.int .i64 pk, .string pt, .int .i64 pm, .int .i64 px, .int .i64 py, .string pn, .slice poa pon poc, .slice pka pkn pkc] 28)))
      have HPO6 := Lib.hid ((HPO.out.grow hg5).grow (gr_alloc (grownBy_refl w5 none) (.cells #[.int .i64 pk, .string pt, .int .i64 pm, .int .i64 px, .int .i64 py, .string pn, .slice poa pon poc, .slice pka pkn pkc] 28)))
      have HPK6 := Lib.hid ((HPK.out.grow hg5).grow (gr_alloc (grownBy_refl w5 none) (.cells #[.int .i64 pk, .string pt, .int .i64 pm, .int .i64 px, .int .i64 py, .string pn, .slice poa pon poc, .slice pka pkn pkc] 28)))
      have hc5 := blk_call HC4.out hg5 (by simp)
      obtain ⟨⟨d0, d1, d2, d3, d4, d5, d6, d7⟩, _⟩ := cells8_of _ _ _ _ _ _ _ _ _ _ _ hc5
      have hbl4 := lt_of_heap hc5
      have HZ5 := Lib.hid (lt_of_heap hc5)
      clear hg5 HC4 HL4 HPO HPK hc5 HB4 HK4
      go_wp2_with fail
      clear d0 d1 d2 d3 d4 d5 d6 d7
      have HZ6 := Lib.hid (show b4 < w5.heap.size from HZ5.out)
      generalize w5.alloc (.cells #[.int .i64 pk, .string pt, .int .i64 pm, .int .i64 px, .int .i64 py, .string pn, .slice poa pon poc, .slice pka pkn pkc] 28) = W6 at *
      generalize w5.heap.size = b6 at *
      refine (first_any _ _ _ _ _ _ _ _ _ _ _ _ _ _ W6 HL6.out).mono ?_
      rw [first_fn]
      rintro e w7 ⟨hg7, qk, qm, qx, qy, qt, qn, qoa, qon, qoc, qka, qkn, qkc, rfl, HQA, HQO, HQK⟩
      have HG8 := Lib.hid (gr_alloc (grownBy_trans HG6.out hg7) (.cells #[.int .i64 qk, .string qt, .int .i64 qm, .int .i64 qx, .int .i64 qy, .string qn, .slice qoa qon qoc, .slice qka qkn qkc] 28))
      have HP8 := Lib.hid (blk_alloc (blk_call HP6.out hg7 (by simp)) (.cells #[.int .i64 qk, .string qt, .int .i64 qm, .int .i64 qx, .int .i64 qy, .string qn, .slice qoa qon qoc, .slice qka qkn qkc] 28))
      have HQ8 := Lib.hid (blk_new w7 (.cells #[.int .i64 qk, .string qt, .int .i64 qm, .int .i64 qx, .int .i64 qy, .string qn, .slice qoa qon qoc, .slice qka qkn qkc] 28))
      have HPO8 := Lib.hid ((HPO6.out.grow hg7).grow (gr_alloc (grownBy_refl w7 none) (.cells #[.int .i64 qk, .string qt, .int .i64 qm, .int .i64 qx, .int .i64 qy, .string qn, .slice qoa qon qoc, .slice qka qkn qkc] 28)))
      have HPK8 := Lib.hid ((HPK6.out.grow hg7).grow (gr_alloc (grownBy_refl w7 none) (.cells #[.int .i64 qk, .string qt, .int .i64 qm, .int .i64 qx, .int .i64 qy, .string qn, .slice qoa qon qoc, .slice qka qkn qkc] 28)))
      have HQO8 := Lib.hid ((HQO.out.grow hg7).grow (gr_alloc (grownBy_refl w7 none) (.cells #[.int .i64 qk, .string qt, .int .i64 qm, .int .i64 qx, .int .i64 qy, .string qn, .slice qoa qon qoc, .slice qka qkn qkc] 28)))
      have HQK8 := Lib.hid ((HQK.out.grow hg7).grow (gr_alloc (grownBy_refl w7 none) (.cells #[.int .i64 qk, .string qt, .int .i64 qm, .int .i64 qx, .int .i64 qy, .string qn, .slice qoa qon qoc, .slice qka qkn qkc] 28)))
      have HZ7 := Lib.hid (show b6 < w7.heap.size from lt_of_heap (blk_call HP6.out hg7 (by simp)))
      clear hg7 HP6 HPO6 HPK6 HQO HQK HC6 HL6 hbl4 hbl2
      go_wp2_with fail
      generalize w7.alloc (.cells #[.int .i64 qk, .string qt, .int .i64 qm, .int .i64 qx, .int .i64 qy, .string qn, .slice qoa qon qoc, .slice qka qkn qkc] 28) = W8 at *
      generalize w7.heap.size = b8 at *
      have hz4 : w.heap.size ≤ b4 := HZ4.out
      have hz6 : b4 < b6 := HZ6.out
      have hz8 : b6 < b8 := HZ7.out
      have HPN : NdAt b4 W8 b6 (rowN ss.data.toList (c + 1)) := ⟨_, _, _, _, _, _, _, _, _, _, _, _, HPA.out, HP8.out, HPO8.out, HPK8.out⟩
      have HQN : NdAt b4 W8 b8 (setN (c + 1)) := ⟨_, _, _, _, _, _, _, _, _, _, _, _, HQA.out, HQ8.out, HQO8.out, HQK8.out⟩
      clear HPA HP8 HPO8 HPK8 HQA HQ8 HQO8 HQK8 HG2 HG3 HG4 HG6 HZ4 HZ5 HZ6 HZ7 HSQ HQP
      go_loopg [22] (c + 1) (fun g0 i wr => ∃ j : Nat, j ≤ c + 1 ∧ g0 = c + 1 - j ∧ i = .int .i64 (j + 1) ∧ Hid (w.grownBy wr none) ∧ NdAt b4 wr b6 (rowN ss.data.toList (c + 1 - j)) ∧ NdAt b4 wr b8 (setN (c + 1 - j)))
      case atStart => exact ⟨0, by omega, by omega, rfl, HG8.out, HPN, HQN⟩
      case round =>
        obtain ⟨j, hj, rfl, rfl, HG, hp, hq⟩ := hrel
        by_cases hlt : j < c + 1
        · obtain ⟨d, hd⟩ : ∃ d, c + 1 - j = d + 1 := ⟨c - j, by omega⟩
          rw [hd] at hp hq
          have hd' : c + 1 - (j + 1) = d := by omega
          obtain ⟨k, tx, m, tk, tm, nm, oa, on, oc, ka, kn, kc, hA, hB, -, hK⟩ := hp
          obtain ⟨k2, tx2, m2, tk2, tm2, nm2, oa2, on2, oc2, ka2, kn2, kc2, hA2, hB2, -, hK2⟩ := hq
          obtain ⟨rfl, rfl, rfl, rfl, rfl, rfl⟩ : k = 4 ∧ tx = ss ∧ m = 0 ∧ tk = 0 ∧ tm = 0 ∧ nm = ⟨#[]⟩ := hA
          obtain ⟨rfl, rfl, rfl, rfl, rfl, rfl⟩ : k2 = 5 ∧ tx2 = ⟨#[]⟩ ∧ m2 = 0 ∧ tk2 = 0 ∧ tm2 = 0 ∧ nm2 = ⟨#[]⟩ := hA2
          replace hK : RepK wr (fun g => g < b4) (.slice ka kn kc) [rowN tx.data.toList d, nmA] := hK
          replace hK2 : RepK wr (fun g => g < b4) (.slice ka2 kn2 kc2) [nmA, setN d] := hK2
          obtain rfl : kn = 2 := hK.len
          obtain rfl : kn2 = 2 := hK2.len
          obtain ⟨g1, _, rfl, hs1, _, _⟩ := hK.some_of (by simp)
          obtain ⟨g2, _, rfl, hs2, _, _⟩ := hK2.some_of (by simp)
          obtain ⟨_, ra, rn, rc, ya, yn, yc, he, hl1, ⟨p0, p1, p2, p3, p4, p5, p6, p7⟩, hPO, hPK⟩ := hK.kidN 0 (by simp)
          cases he
          obtain ⟨_, _, _, _, _, _, _, he, _, ⟨p8, -⟩, -, -⟩ := hK.kidN 1 (by simp)
          cases he
          obtain ⟨_, _, _, _, _, _, _, he, hl2, ⟨q8, -⟩, -, -⟩ := hK2.kidN 0 (by simp)
          cases he
          obtain ⟨_, ra2, rn2, rc2, ya2, yn2, yc2, he, _, ⟨q0, q1, q2, q3, q4, q5, q6, q7⟩, hQO, hQK⟩ := hK2.kidN 1 (by simp)
          cases he
          simp only [Nat.zero_mul, Nat.zero_add, Nat.one_mul] at p0 p1 p2 p3 p4 p5 p6 p7 p8 q0 q1 q2 q3 q4 q5 q6 q7 q8
          replace p8 : wr.cell? ⟨g1, 8, none⟩ = some (.int .i64 2) := p8
          replace q8 : wr.cell? ⟨g2, 0, none⟩ = some (.int .i64 2) := q8
          replace p0 : wr.cell? ⟨g1, 0, none⟩ = some (.int .i64 (rowN tx.data.toList d).kind) := p0
          replace p1 : wr.cell? ⟨g1, 1, none⟩ = some (.string ⟨(rowN tx.data.toList d).text.toArray⟩) := p1
          replace p2 : wr.cell? ⟨g1, 2, none⟩ = some (.int .i64 (rowN tx.data.toList d).num) := p2
          replace p3 : wr.cell? ⟨g1, 3, none⟩ = some (.int .i64 (rowN tx.data.toList d).typ.kind) := p3
          replace p4 : wr.cell? ⟨g1, 4, none⟩ = some (.int .i64 (rowN tx.data.toList d).typ.num) := p4
          replace p5 : wr.cell? ⟨g1, 5, none⟩ = some (.string ⟨(rowN tx.data.toList d).typ.name.toArray⟩) := p5
          replace q0 : wr.cell? ⟨g2, 8, none⟩ = some (.int .i64 (setN d).kind) := q0
          replace q1 : wr.cell? ⟨g2, 8 + 1, none⟩ = some (.string ⟨(setN d).text.toArray⟩) := q1
          replace q2 : wr.cell? ⟨g2, 8 + 2, none⟩ = some (.int .i64 (setN d).num) := q2
          replace q3 : wr.cell? ⟨g2, 8 + 3, none⟩ = some (.int .i64 (setN d).typ.kind) := q3
          replace q4 : wr.cell? ⟨g2, 8 + 4, none⟩ = some (.int .i64 (setN d).typ.num) := q4
          replace q5 : wr.cell? ⟨g2, 8 + 5, none⟩ = some (.string ⟨(setN d).typ.name.toArray⟩) := q5
          replace hPO : RepOf wr (fun g => g < b4) (.slice ra rn rc) (rowN tx.data.toList d).typ.of := hPO
          replace hPK : RepK wr (fun g => g < b4) (.slice ya yn yc) (rowN tx.data.toList d).kids := hPK
          replace hQO : RepOf wr (fun g => g < b4) (.slice ra2 rn2 rc2) (setN d).typ.of := hQO
          replace hQK : RepK wr (fun g => g < b4) (.slice ya2 yn2 yc2) (setN d).kids := hQK
          have HPA := Lib.hid (show AsN (rowN tx.data.toList d) _ _ _ _ _ _ from ⟨rfl, rfl, rfl, rfl, rfl, rfl⟩)
          have HQA := Lib.hid (show AsN (setN d) _ _ _ _ _ _ from ⟨rfl, rfl, rfl, rfl, rfl, rfl⟩)
          have HPO := Lib.hid hPO
          have HPK := Lib.hid hPK
          have HQO := Lib.hid hQO
          have HQK := Lib.hid hQK
          have HB := Lib.hid hB
          have HB2 := Lib.hid hB2
          have HD := Lib.hid hd'
          obtain ⟨⟨f0, f1, f2, f3, f4, f5, f6, f7⟩, e0, e1, e2, e3, e4, e5, e6, e7⟩ := cells8_of _ _ _ _ _ _ _ _ _ _ _ hB
          obtain ⟨⟨h0, h1, h2, h3, h4, h5, h6, h7⟩, i0, i1, i2, i3, i4, i5, i6, i7⟩ := cells8_of _ _ _ _ _ _ _ _ _ _ _ hB2
          have hlb := lt_of_heap hB
          have hlb2 := lt_of_heap hB2
          clear hPO hPK hQO hQK hB hB2 hK hK2 hd' hd HPN HQN
          generalize (rowN tx.data.toList d).kind = v0 at *
          generalize (⟨(rowN tx.data.toList d).text.toArray⟩ : ByteArray) = v1 at *
          generalize (rowN tx.data.toList d).num = v2 at *
          generalize (rowN tx.data.toList d).typ.kind = v3 at *
          generalize (rowN tx.data.toList d).typ.num = v4 at *
          generalize (⟨(rowN tx.data.toList d).typ.name.toArray⟩ : ByteArray) = v5 at *
          generalize (setN d).kind = u0 at *
          generalize (⟨(setN d).text.toArray⟩ : ByteArray) = u1 at *
          generalize (setN d).num = u2 at *
          generalize (setN d).typ.kind = u3 at *
          generalize (setN d).typ.num = u4 at *
          generalize (⟨(setN d).typ.name.toArray⟩ : ByteArray) = u5 at *
          have hlt' : (j : Int) + 1 < 2 + c := by omega
          have hw : IntKind.i64.wrap ((j : Int) + 1 + 1) = j + 1 + 1 := IntWalk.i64_in _ (by omega)
          have hn1 : g1 ≠ b6 := by omega
          have hn2 : g2 ≠ b6 := by omega
          have hn3 : b8 ≠ b6 := by omega
          go_wp2_with fail
          have hG := HG.out
          have hz := hG.size
          go_roundg (c - j)
          case measure => omega
          case rel =>
            refine ⟨j + 1, by omega, by omega, by go_num, ?_, ?_, ?_⟩
            · show World.grownBy _ _ none
              have l6 : w.heap.size ≤ b6 := by omega
              have l8 : w.heap.size ≤ b8 := by omega
              repeat (first | with_reducible refine World.grownBy.gr_set ?_ l8 _ | with_reducible refine World.grownBy.gr_set ?_ l6 _)
              exact hG
            · rw [HD.out]
              exact nd_keep (nd_put (by omega) HPA.out HB.out HPO.out HPK.out) (by omega) (by omega)
            · rw [HD.out]
              exact nd_put8 (by omega) (by omega) (by omega) HQA.out HB2.out HQO.out HQK.out
        · have hj' : j = c + 1 := by omega
          subst hj'
          have h0 : c + 1 - (c + 1) = 0 := by omega
          rw [h0] at hp hq
          obtain ⟨k, tx, m, tk, tm, nm, oa, on, oc, ka, kn, kc, ⟨rfl, -⟩, hb, -⟩ := hp
          obtain ⟨k2, tx2, m2, tk2, tm2, nm2, oa2, on2, oc2, ka2, kn2, kc2, ⟨rfl, -⟩, hb2, -⟩ := hq
          have hlt' : ¬ ((c + 1 : Nat) : Int) + 1 < 2 + c := by omega
          have p0 : wr.cell? ⟨b6, 0, none⟩ = some (.int .i64 2) := cell_ith _ hb rfl
          have q0 : wr.cell? ⟨b8, 0, none⟩ = some (.int .i64 2) := cell_ith _ hb2 rfl
          clear hb hb2 h0 hlt HPN HQN
          go_wp2_with fail
          go_ret
          exact ⟨rfl, HG.out⟩
theorem u8_nat {n : Int} (h : (Lit.int .u8 n).wf = true) : ∃ k : Nat, n = k ∧ k < 256 := by
  have h2 : 0 ≤ n ∧ n < 256 := by
    have h1 : IntKind.u8.min = 0 := rfl
    have h2 : IntKind.u8.max = 255 := rfl
    simp [Lit.wf] at h
    omega
  exact ⟨n.toNat, by omega, by omega⟩
theorem rows_int (a b : Int) (wa : (Lit.int .u8 a).wf = true) (wb : (Lit.int .u8 b).wf = true) (w : World) (hv : Vars w) : Calls Tryz.prog 7 #[.int .u8 a, .int .u8 b] w fun e w' => e = .returned (.bool true) ∧ w.grownBy w' none := by
  obtain ⟨j, rfl, hj⟩ := u8_nat wa
  obtain ⟨k, rfl, hk⟩ := u8_nat wb
  exact rows_walk j k hj hk w hv

end Go.Proofs.YtkbplcfehllbjaaGreatDoor
