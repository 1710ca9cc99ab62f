/- The document's graphs, walked: size, spread, Leads. -/
import Derived.Test.YtneehdjaaofjaaaW0
import Derived.Deep.DeepCutAuto
import Derived.Deep.LoopGhost
namespace Go.Proofs.Ytneehdjaaofjaaa
open Go.RowKit
theorem StrAt.keepR {α : Type} {C : α → Array Value} {m r : Nat} {w w' : World} {A : Option Addr} {l : List α} (h : StrAt C m w A l) (g : w.grownBy w' (some r)) (hr : l ≠ [] → ∀ ad, A = some ad → ad.block ≠ r) : StrAt C m w' A l :=
  h.imp id fun ⟨ad, e, hc⟩ => ⟨ad, e, fun j x hx i u hu => by
    have h1 := hc j x hx i u hu
    exact (World.cell?_of_block (g.block _ (World.block_lt_of_cell? w _ h1) (by rw [add_block]; intro e'; injection e' with e'; exact hr (fun e0 => by rw [e0] at hx; simp at hx) ad e e'))).trans h1⟩
theorem eds_lt {w : World} {ad : Addr} {E : List Edg} (h : EdsAt w (some ad) E) (hE : E ≠ []) : ad.block < w.heap.size := by
  cases E with
  | nil => exact absurd rfl hE
  | cons e r =>
    have h1 := World.block_lt_of_cell? w _ (eds_cells h (k := 0) (e := e) rfl).1
    rwa [add_block] at h1
set_option maxRecDepth 100000 in
set_option maxHeartbeats 4000000 in
theorem r15_size_any (n : Int) (w : World) :
    Calls Try.prog 20 #[.int .i64 n] w fun e w' => e = .returned (.int .i64 (szE n)) ∧ w = w' := by
  by_cases h0 : n < 0
  · rw [show szE n = 0 by unfold szE; rw [if_pos h0]]
    go_enter Try.func20, Try.ntmps20
    go_wp2_with fail
    go_ret
    exact ⟨rfl, rfl⟩
  · by_cases h1 : 20000 < n
    · rw [show szE n = 20000 by unfold szE; rw [if_neg h0, if_pos h1]]
      go_enter Try.func20, Try.ntmps20
      go_wp2_with fail
      go_ret
      exact ⟨rfl, rfl⟩
    · have HN := Lib.hid (show n = (szE n : Int) by unfold szE; rw [if_neg h0, if_neg h1]; omega)
      rw [← HN.out]
      go_enter Try.func20, Try.ntmps20
      go_wp2_with fail
      go_ret
      exact ⟨rfl, rfl⟩
theorem gr_setR {a b : World} {r : Nat} (h : a.grownBy b (some r)) {c : World} (g : b.grownBy c (some r)) : a.grownBy c (some r) := grownBy_trans h g
set_option maxRecDepth 100000 in
set_option maxHeartbeats 8000000 in
theorem spread_any (N : Nat) (A : Option Addr) (c0 : Nat) (E : List Edg) (base r c : Nat) (M0 : List Bool) (w : World) (hE : EdsAt w A E) (hM : MkAt base w r c M0) (hN : M0.length = N) (hA : E ≠ [] → ∀ ad, A = some ad → ad.block ≠ r) (hEl : E.length ≤ 1000000) :
    Calls Try.prog 30 #[.int .i64 N, .slice A E.length c0, .slice (some ⟨r, 0, none⟩) N c] w fun e w' => ∃ M, e = .returned (.slice (some ⟨r, 0, none⟩) N c) ∧ IsCl (prs N E) M0 M ∧ MkAt base w' r c M ∧ w.grownBy w' (some r) := by
  have HE := Lib.hid hE
  have HM := Lib.hid hM
  have HA := Lib.hid hA
  have HN := Lib.hid hN
  clear hE hM hA hN
  go_enter Try.func30, Try.ntmps30
  go_wp2_with fail
  go_loopg [7] (2 * fcnt M0 + 1) (fun g v wr => ∃ (M1 : List Bool) (more : Bool), v = .bool more ∧ g = 2 * fcnt M1 + (if more = true then 1 else 0) ∧ Hid (From (prs N E) M0 M1) ∧ Hid (more = false → ShutI N E M1 E.length) ∧ Hid (MkAt base wr r c M1) ∧ Hid (w.grownBy wr (some r)))
  case atStart => exact ⟨M0, true, rfl, rfl, From.refl _ _, fun h => (by cases h), HM.out, grownBy_refl _ _⟩
  case round =>
    obtain ⟨M1, more, rfl, hg, HF, HS, HM1, HG⟩ := hrel
    have HLN := Lib.hid (HF.out.1.trans HN.out)
    cases more
    · clear hg
      go_wp2_with fail
      go_ret
      exact ⟨rfl, M1, HF.out.shut (HS.out (by simp)), HM1.out, HG.out⟩
    · have HGG := Lib.hid hg
      clear hg HS
      go_wp2_with fail
      go_loopw [8, 7] (fun i v wi => ∃ (q : Nat) (M2 : List Bool) (more : Bool), q ≤ E.length ∧ i = .int .i64 q ∧ v = .bool more ∧ Hid (From (prs N E) M0 M2) ∧ Hid (more = false → M2 = M1 ∧ ShutI N E M2 q) ∧ Hid (more = true → fcnt M2 < fcnt M1) ∧ Hid (MkAt base wi r c M2) ∧ Hid (w.grownBy wi (some r))) (fun i _ _ => E.length - (intOf i).toNat)
      case atStart => exact ⟨0, M1, false, Nat.zero_le _, rfl, rfl, HF, fun _ => ⟨rfl, ShutI.zero _ _ _⟩, fun h => (by cases h), HM1, HG⟩
      case round =>
        obtain ⟨q, M2, more, hq, rfl, rfl, HF2, HS2, HC2, HM2, HG2⟩ := hrel
        have HLN2 := Lib.hid (HF2.out.1.trans HN.out)
        by_cases hlt : q < E.length
        · have HX := Lib.hid (show E[q]? = some E[q] from List.getElem?_eq_getElem hlt)
          generalize E[q] = e at HX
          obtain ⟨ad, rfl⟩ := HE.out.some_ hlt
          obtain ⟨hc1, _, hc2⟩ := eds_cells (HE.out.keepR HG2.out HA.out) HX.out
          obtain ⟨fr, pc, to_⟩ := e
          dsimp only at hc1 hc2
          go_upto_region 9 with fail
          clear hc1 hc2
          obtain ⟨t, ht⟩ : ∃ t, t = decide (edgeIn N ⟨fr, pc, to_⟩ = true ∧ mk M2 fr.toNat ∧ ¬ mk M2 to_.toNat) := ⟨_, rfl⟩
          have HT := Lib.hid ht
          clear ht
          go_cut [56] (fun v wx => v = .bool t ∧ wx = wr)
          case first =>
            by_cases h1 : 0 ≤ fr
            · by_cases h2 : fr < (N : Int)
              · by_cases h3 : 0 ≤ to_
                · by_cases h4 : to_ < (N : Int)
                  · obtain ⟨a, rfl⟩ : ∃ a : Nat, fr = a := ⟨fr.toNat, by omega⟩
                    obtain ⟨b, rfl⟩ : ∃ b : Nat, to_ = b := ⟨to_.toNat, by omega⟩
                    have ha : a < N := by omega
                    have hb : b < N := by omega
                    have HI := Lib.hid (show edgeIn N ⟨(a : Int), pc, (b : Int)⟩ = true from decide_eq_true ⟨h1, h2, h3, h4⟩)
                    by_cases hma : mk M2 a
                    · have hca := HM2.out.cell hma
                      by_cases hmb : mk M2 b
                      · have hcb := HM2.out.cell hmb
                        have HTT := Lib.hid (show t = false by rw [HT.out]; exact decide_eq_false fun h => h.2.2 (by simpa using hmb))
                        clear hma hmb h1 h2 h3 h4
                        go_wp2_with fail
                        go_meet
                        case rel => exact ⟨by rw [HTT.out], rfl⟩
                      · have hcb := HM2.out.cell (not_mk (by rw [HLN2.out]; exact hb) hmb)
                        have HTT := Lib.hid (show t = true by rw [HT.out]; exact decide_eq_true ⟨HI.out, by simpa using hma, by simpa using hmb⟩)
                        clear hma hmb h1 h2 h3 h4
                        go_wp2_with fail
                        go_meet
                        case rel => exact ⟨by rw [HTT.out], rfl⟩
                    · have hca := HM2.out.cell (not_mk (by rw [HLN2.out]; exact ha) hma)
                      have HTT := Lib.hid (show t = false by rw [HT.out]; exact decide_eq_false fun h => hma (by simpa using h.2.1))
                      clear hma h1 h2 h3 h4
                      go_wp2_with fail
                      go_meet
                      case rel => exact ⟨by rw [HTT.out], rfl⟩
                  · have HTT := Lib.hid (show t = false by rw [HT.out]; exact decide_eq_false fun h => h4 (of_decide_eq_true h.1).2.2.2)
                    go_wp2_with fail
                    go_meet
                    case rel => exact ⟨by rw [HTT.out], rfl⟩
                · have HTT := Lib.hid (show t = false by rw [HT.out]; exact decide_eq_false fun h => h3 (of_decide_eq_true h.1).2.2.1)
                  go_wp2_with fail
                  go_meet
                  case rel => exact ⟨by rw [HTT.out], rfl⟩
              · have HTT := Lib.hid (show t = false by rw [HT.out]; exact decide_eq_false fun h => h2 (of_decide_eq_true h.1).2.1)
                go_wp2_with fail
                go_meet
                case rel => exact ⟨by rw [HTT.out], rfl⟩
            · have HTT := Lib.hid (show t = false by rw [HT.out]; exact decide_eq_false fun h => h1 (of_decide_eq_true h.1).1)
              go_wp2_with fail
              go_meet
              case rel => exact ⟨by rw [HTT.out], rfl⟩
          case rest =>
          obtain ⟨rfl, hwc⟩ := hcut
          have hwc' := hwc.symm
          subst hwc'
          cases t
          · have HNX := Lib.hid (fun (h : more = false) => show M2 = M1 ∧ ShutI N E M2 (q + 1) from ⟨(HS2.out h).1, (HS2.out h).2.next HX.out fun hi hm => Decidable.byContradiction fun hn => by
              have := HT.out
              rw [decide_eq_true ⟨hi, hm, hn⟩] at this
              cases this⟩)
            have hlt' := hlt
            go_wp2_with fail
            go_roundw
            case rel => exact ⟨q + 1, M2, more, by omega, by go_num, rfl, HF2, HNX, HC2, HM2, HG2⟩
            case measure => simp [intOf]; omega
          · obtain ⟨hi, hma, hmb⟩ := of_decide_eq_true HT.out.symm
            have hii : 0 ≤ fr ∧ fr < (N : Int) ∧ 0 ≤ to_ ∧ to_ < (N : Int) := of_decide_eq_true hi
            try dsimp only at hma hmb
            obtain ⟨a, rfl⟩ : ∃ a : Nat, fr = a := ⟨fr.toNat, by omega⟩
            obtain ⟨b, rfl⟩ : ∃ b : Nat, to_ = b := ⟨to_.toNat, by omega⟩
            rw [Int.toNat_natCast] at hma hmb
            have hb : b < N := by omega
            have HBN := Lib.hid (show b < M2.length by rw [HLN2.out]; exact hb)
            have HFC := Lib.hid (fcnt_set (not_mk HBN.out hmb))
            have HF3 := Lib.hid (HF2.out.set (prs_mem.2 ⟨by omega, hb, _, List.mem_of_getElem? HX.out, rfl, rfl⟩) hma HBN.out)
            have hcell := HM2.out.cell (not_mk HBN.out hmb)
            have hfr := HM2.out.fr b
            have HST := Lib.hid (HM2.out.set b true)
            have HLT := Lib.hid (show fcnt (M2.set b true) < fcnt M1 by
              have h1 := HFC.out
              cases more
              · rw [(HS2.out rfl).1] at h1
                rw [(HS2.out rfl).1]
                omega
              · have := HC2.out rfl
                omega)
            clear hi hii hma hmb
            go_wp2_with fail
            go_roundw
            case rel => exact ⟨q + 1, M2.set b true, true, by omega, by go_num, rfl, HF3, fun h => (by cases h), fun _ => HLT.out, HST.out.1, grownBy_trans HG2.out HST.out.2⟩
            case measure => simp [intOf]; omega
        · have HEQ := Lib.hid (show q = E.length by omega)
          go_wp2_with fail
          cases more
          · have HSS := Lib.hid (HS2.out rfl)
            go_roundg (2 * fcnt M2)
            case measure => have := HGG.out; rw [HSS.out.1]; simp at this; omega
            case rel => exact ⟨M2, false, rfl, by simp, HF2, fun _ => by rw [← HEQ.out]; exact HSS.out.2, HM2, HG2⟩
          · have HCC := Lib.hid (HC2.out rfl)
            go_roundg (2 * fcnt M2 + 1)
            case measure => have := HGG.out; have := HCC.out; simp at *; omega
            case rel => exact ⟨M2, true, rfl, by simp, HF2, fun h => (by cases h), HM2, HG2⟩
/-- Marks of the call's own, made new: all false. -/
theorem mk_made {N : Nat} : madeCells (Value.bool false).cells (N * 1) = (boolsV (List.replicate N false)).toArray := by
  have h : (madeCells #[Value.bool false] N).toList = List.replicate N (Value.bool false) := toList_madeCells_one _ _
  refine Array.toList_inj.1 ?_
  rw [Nat.mul_one]
  show (madeCells #[Value.bool false] N).toList = _
  rw [h]
  simp [boolsV]
theorem MkAt.first {base r N : Nat} {W : World} (h : W.ownsRow base 4 1 (.slice (some ⟨r, 0, none⟩) N N) N (madeCells (Value.bool false).cells (N * 1)).toList) : MkAt base W r N (List.replicate N false) := by
  rw [mk_made] at h
  unfold MkAt
  rw [List.length_replicate]
  exact h
theorem rep_at {N v : Nat} (h : v < N) : (List.replicate N false)[v]? = some false := by rw [List.getElem?_replicate, if_pos h]

end Go.Proofs.Ytneehdjaaofjaaa
