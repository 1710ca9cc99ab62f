/- unite: Join. -/
import Derived.Test.YteblcmebhfjbnaaUd
import Derived.Deep.DeepCutAuto
import Derived.StillTailTactics
namespace Go.Proofs.Yteblcmebhfjbnaa
open Go.RowKit
theorem Touch.set {w : World} {F : Nat → Prop} {a : Addr} (h : F a.block) (v : Value) : Touch w (w.setCell a v) F :=
  ⟨rfl, rfl, rfl, by rw [show (w.setCell a v).heap.size = w.heap.size by simp [World.setCell]]; exact Nat.le_refl _, fun k _ hn => Below.heap_setCell _ _ _ _ (fun e => hn (e ▸ h))⟩
theorem Touch.drew {w w' : World} {F : Nat → Prop} (h : Touch w w' F) : Touch w w'.drew F := ⟨h.os, h.tape, h.output, h.size, h.block⟩
theorem join_no {p : Value} {n : Nat} {W : World} (a b : Int) (hl : Calls Try.prog 16 #[p] W fun e w' => e = .returned (.int .i64 (n : Int)) ∧ W = w') (h : inG n a = false ∨ inG n b = false) :
    Calls Try.prog 13 #[p, .int .i64 a, .int .i64 b] W fun e w' => e = .returned (.bool false) ∧ W = w' := by
  have HA := Lib.hid (has_any a hl)
  have HB := Lib.hid (has_any b hl)
  clear hl
  cases ha : inG n a with
  | false =>
    have HE := Lib.hid ha
    clear h ha
    go_enter Try.func13, Try.ntmps13
    go_wp2_with fail
    refine HA.out.mono ?_
    rintro e w1 ⟨rfl, rfl⟩
    rw [HE.out]
    go_wp2_with fail
    go_ret
    exact ⟨rfl, rfl⟩
  | true =>
    have HE := Lib.hid ha
    have HF := Lib.hid (h.resolve_left (by rw [ha]; simp))
    clear h ha
    go_enter Try.func13, Try.ntmps13
    go_wp2_with fail
    refine HA.out.mono ?_
    rintro e w1 ⟨rfl, rfl⟩
    rw [HE.out]
    go_wp2_with fail
    refine HB.out.mono ?_
    rintro e w1 ⟨rfl, rfl⟩
    rw [HF.out]
    go_wp2_with fail
    go_ret
    exact ⟨rfl, rfl⟩
set_option maxRecDepth 100000 in
set_option maxHeartbeats 4000000 in
/-- Both in one group. -/
theorem join_one {m b c : Nat} {l : List Nd} {E : List Nat} {W : World} (hm : HdB W m b E.length c) (hb : NdB W b l) (h : UF l E) {i j k : Nat} (hi : E[i]? = some k) (hj : E[j]? = some k) :
    Calls Try.prog 13 #[.pointer (some ⟨m, 0, none⟩), .int .i64 (i : Int), .int .i64 (j : Int)] W fun e w' => e = .returned (.bool false) ∧ W = w' := by
  have hin : i < E.length := (List.getElem?_eq_some_iff.1 hi).1
  have hjn : j < E.length := (List.getElem?_eq_some_iff.1 hj).1
  have HA := Lib.hid (has_any (i : Int) (len_at hm))
  have HB := Lib.hid (has_any (j : Int) (len_at hm))
  have HE := Lib.hid (show inG E.length (i : Int) = true from decide_eq_true ⟨by omega, by omega⟩)
  have HF := Lib.hid (show inG E.length (j : Int) = true from decide_eq_true ⟨by omega, by omega⟩)
  obtain ⟨r, hr⟩ := h.root hi
  have HT := Lib.hid (top_at hm hb h hi hr)
  have HU := Lib.hid (top_at hm hb h hj hr)
  clear hm hb h hi hr hj
  go_enter Try.func13, Try.ntmps13
  go_wp2_with fail
  refine HA.out.mono ?_
  rintro e w1 ⟨rfl, rfl⟩
  rw [HE.out]
  go_wp2_with fail
  refine HB.out.mono ?_
  rintro e w1 ⟨rfl, rfl⟩
  rw [HF.out]
  go_wp2_with fail
  refine HT.out.mono ?_
  rintro e w1 ⟨rfl, rfl⟩
  go_wp2_with fail
  refine HU.out.mono ?_
  rintro e w1 ⟨rfl, rfl⟩
  go_wp2_with fail
  go_ret
  exact ⟨rfl, rfl⟩
set_option maxRecDepth 100000 in
set_option maxHeartbeats 4000000 in
/-- Two groups. -/
theorem join_two {m b c : Nat} {l : List Nd} {E : List Nat} {W : World} (hm : HdB W m b E.length (c + 1)) (hb : NdB W b l) (h : UF l E) {i j k q : Nat} (hi : E[i]? = some k) (hj : E[j]? = some q) (hkq : k ≠ q) (hn : E.length ≤ 100000) (hc : c ≤ 100000) (hbm : b ≠ m) :
    Calls Try.prog 13 #[.pointer (some ⟨m, 0, none⟩), .int .i64 (i : Int), .int .i64 (j : Int)] W fun e w' => e = .returned (.bool true) ∧ (∃ l', UF l' (relab (min k q) (max k q) E) ∧ HdB w' m b E.length c ∧ NdB w' b l') ∧ Touch W w' (fun x => x = b ∨ x = m) := by
  have hin : i < E.length := (List.getElem?_eq_some_iff.1 hi).1
  have hjn : j < E.length := (List.getElem?_eq_some_iff.1 hj).1
  have HA := Lib.hid (has_any (i : Int) (len_at hm))
  have HB := Lib.hid (has_any (j : Int) (len_at hm))
  have HE := Lib.hid (show inG E.length (i : Int) = true from decide_eq_true ⟨by omega, by omega⟩)
  have HF := Lib.hid (show inG E.length (j : Int) = true from decide_eq_true ⟨by omega, by omega⟩)
  obtain ⟨r, hr⟩ := h.root hi
  obtain ⟨t, ht⟩ := h.root hj
  have hrt : r ≠ t := fun e => by
    rw [e, ht] at hr
    injection hr with hr
    injection hr with _ hr
    injection hr with _ hr
    exact hkq hr.symm
  have hrn : r < E.length := by rw [← h.len]; exact (List.getElem?_eq_some_iff.1 hr).1
  have htn : t < E.length := by rw [← h.len]; exact (List.getElem?_eq_some_iff.1 ht).1
  have HT := Lib.hid (top_at hm hb h hi hr)
  have HU := Lib.hid (top_at hm hb h hj ht)
  have hs1 : sizG E k ≤ 100000 := Nat.le_trans (siz_le _ _) hn
  have hs2 : sizG E q ≤ 100000 := Nat.le_trans (siz_le _ _) hn
  generalize sizG E k = s1 at hr HT hs1
  generalize sizG E q = s2 at ht HU hs2
  have HR := Lib.hid hr
  have HS := Lib.hid ht
  have HH := Lib.hid h
  have HM := Lib.hid hm
  have HN := Lib.hid hb
  obtain ⟨c0, c1⟩ := hm.cells
  obtain ⟨_, d1, _⟩ := hb.cells hr
  obtain ⟨_, f1, _⟩ := hb.cells ht
  dsimp only at d1 f1
  obtain ⟨n, hnn⟩ : ∃ n, n = E.length := ⟨_, rfl⟩
  rw [← hnn] at c0 hin hjn hrn htn hn HA HB HE HF ⊢
  have HNN := Lib.hid hnn
  clear hm hb h hi hr hj ht hnn
  go_enter Try.func13, Try.ntmps13
  go_wp2_with fail
  refine HA.out.mono ?_
  rintro e w1 ⟨rfl, rfl⟩
  rw [HE.out]
  go_wp2_with fail
  refine HB.out.mono ?_
  rintro e w1 ⟨rfl, rfl⟩
  rw [HF.out]
  go_wp2_with fail
  refine HT.out.mono ?_
  rintro e w1 ⟨rfl, rfl⟩
  go_wp2_with fail
  refine HU.out.mono ?_
  rintro e w1 ⟨rfl, rfl⟩
  clear HA HB HE HF HT HU
  go_upto_region 6 with fail
  go_cut [46] (fun x wx => x = .bool (decide (s1 < s2)) ∧ w1.grownBy wx none)
  case first =>
    go_quiet (fail)
    go_wp2_with fail
    go_meet
    case rel => exact ⟨rfl, gr_drewN (grownBy_refl _ _) _⟩
  case rest =>
  obtain ⟨rfl, hg⟩ := hcut
  have HG := Lib.hid hg
  clear hg c0 c1 d1 f1
  go_upto_if 46 with fail
  go_cut [7, 8] (fun x y wx => ∃ u v su sv xu xv : Nat, x = .int .i64 (u : Int) ∧ y = .int .i64 (v : Int) ∧ u ≠ v ∧ u < n ∧ v < n ∧ su ≤ 100000 ∧ sv ≤ 100000 ∧ l[u]? = some (u, su, xu) ∧ l[v]? = some (v, sv, xv) ∧ min xu xv = min k q ∧ max xu xv = max k q ∧ w1.grownBy wx none)
  case first =>
    by_cases hlt : s1 < s2
    · go_wp2_with fail
      go_meet
      case rel => exact ⟨t, r, s2, s1, q, k, rfl, rfl, fun e => hrt e.symm, htn, hrn, hs2, hs1, HS.out, HR.out, Nat.min_comm _ _, Nat.max_comm _ _, HG.out⟩
    · go_wp2_with fail
      go_meet
      case rel => exact ⟨r, t, s1, s2, k, q, rfl, rfl, hrt, hrn, htn, hs1, hs2, HR.out, HS.out, rfl, rfl, HG.out⟩
  case rest =>
  obtain ⟨u, v, su, sv, xu, xv, rfl, rfl, huv, hun, hvn, hsu, hsv, hu, hv, hmin, hmax, hg⟩ := hcut
  have hm := HM.out.gr hg
  have hb := HN.out.gr hg
  obtain ⟨c0, c1⟩ := hm.cells
  obtain ⟨d0, d1, d2⟩ := hb.cells hu
  obtain ⟨f0, f1, f2⟩ := hb.cells hv
  dsimp only at d0 d1 d2 f0 f1 f2
  rw [← HNN.out] at c0
  have HG2 := Lib.hid hg
  have HM2 := Lib.hid hm
  have HN2 := Lib.hid hb
  have HUU := Lib.hid hu
  have HVV := Lib.hid hv
  have HMI := Lib.hid hmin
  have HMA := Lib.hid hmax
  clear hg hm hb hu hv hmin hmax HR HS HM HN HG hrt hs1 hs2
  go_wp2_with fail
  go_quiet (fail)
  go_wp2_with fail
  generalize hwd : wc.drewN _ = wd
  have hg : w1.grownBy wd none := by rw [← hwd]; exact gr_drewN HG2.out _
  have hm : HdB wd m b n (c + 1) := by rw [← hwd, HNN.out]; exact HM2.out
  have hb : NdB wd b l := by rw [← hwd]; exact HN2.out
  clear hwd c0 c1 d0 d1 d2 f0 f1 f2 HG2 HM2 HN2
  obtain ⟨_, d1, _⟩ := hb.cells HUU.out
  obtain ⟨_, f1, _⟩ := hb.cells HVV.out
  have z1 := hb.frz (u * 3 + 1)
  dsimp only at d1 f1
  have hw : IntKind.i64.wrap ((su : Int) + (sv : Int)) = ((su + sv : Nat) : Int) := by rw [IntWalk.i64_in _ (by omega)]; omega
  have HG := Lib.hid hg
  have HM := Lib.hid hm
  have HN := Lib.hid hb
  clear hg hm hb
  go_still_tail 11, (by kernel_rfl)
  change wpList _ _ _ _ _ wd.drew
  go_wp2_with fail
  generalize hwe : (wd.setCell _ _).drew = we
  have hla : u < l.length := (List.getElem?_eq_some_iff.1 HUU.out).1
  have hlb : v < l.length := (List.getElem?_eq_some_iff.1 HVV.out).1
  have HLA := Lib.hid hla
  have HLB := Lib.hid hlb
  have hg : Touch w1 we (fun x => x = b ∨ x = m) := by
    rw [← hwe]
    exact (Touch.of_gr HG.out).trans (Touch.drew (Touch.set (a := ⟨b, u * 3 + 1, none⟩) (.inl rfl) _)) (fun _ _ h => h)
  have hm : HdB we m b n (c + 1) := by rw [← hwe]; exact HM.out.off (by show b ≠ m; exact hbm) _
  have hb : NdB we b (l.set u (u, su + sv, xu)) := by rw [← hwe]; exact HN.out.siz HUU.out (su + sv)
  clear hwe d1 f1 z1 hw HG HM HN hla hlb
  obtain ⟨_, _, d2⟩ := hb.cells (List.getElem?_set_self HLA.out)
  have hv2 : (l.set u (u, su + sv, xu))[v]? = some (v, sv, xv) := by rw [List.getElem?_set_ne huv]; exact HVV.out
  obtain ⟨_, _, f2⟩ := hb.cells hv2
  have z2 := hb.frz (u * 3 + 2)
  dsimp only at d2 f2
  have HG := Lib.hid hg
  have HM := Lib.hid hm
  have HN := Lib.hid hb
  have HV2 := Lib.hid hv2
  clear hg hm hb hv2
  go_upto_region 10 with fail
  go_cut [83] (fun _ wx => NdB wx b (l.set u (u, su + sv, min xu xv)) ∧ HdB wx m b n (c + 1) ∧ Touch w1 wx (fun x => x = b ∨ x = m))
  case first =>
    by_cases hx : (xv : Int) < (xu : Int)
    · go_still_tail 12, (by kernel_rfl)
      change wpList _ _ _ _ _ we.drew
      go_wp2_with fail
      go_meet
      case rel =>
        have h1 := HN.out.lst (List.getElem?_set_self HLA.out) xv
        rw [List.set_set] at h1
        rw [show min xu xv = xv by omega]
        exact ⟨h1, HM.out.off (by show b ≠ m; exact hbm) _, HG.out.trans (Touch.drew (Touch.set (a := ⟨b, u * 3 + 2, none⟩) (.inl rfl) _)) (fun _ _ h => h)⟩
    · go_still_tail 12, (by kernel_rfl)
      change wpList _ _ _ _ _ we.drew
      go_wp2_with fail
      go_meet
      case rel =>
        have h1 := HN.out.lst (List.getElem?_set_self HLA.out) xu
        rw [List.set_set] at h1
        rw [show min xu xv = xu by omega]
        exact ⟨h1, HM.out.off (by show b ≠ m; exact hbm) _, HG.out.trans (Touch.drew (Touch.set (a := ⟨b, u * 3 + 2, none⟩) (.inl rfl) _)) (fun _ _ h => h)⟩
  case rest =>
  obtain ⟨hb, hm, hg⟩ := hcut
  have hv2 : (l.set u (u, su + sv, min xu xv))[v]? = some (v, sv, xv) := by rw [List.getElem?_set_ne huv]; exact HVV.out
  obtain ⟨f0, _, _⟩ := hb.cells hv2
  obtain ⟨_, c1⟩ := hm.cells
  have z0 := hb.frz (v * 3)
  have z3 := hm.frz 1
  have hw : IntKind.i64.wrap ((c : Int) + 1 - 1) = (c : Int) := by rw [IntWalk.i64_in _ (by omega)]; omega
  have HX1 := Lib.hid hg
  have HX2 := Lib.hid hb
  have HX3 := Lib.hid hm
  have HX4 := Lib.hid hv2
  clear hg hm hb hv2 HG HM HN HV2 d2 f2 z2
  go_wp2_with fail
  go_ret
  refine ⟨rfl, ⟨hang l u v su sv xu xv xv, ?_, ?_, ?_⟩, ?_⟩
  · rw [← HMI.out, ← HMA.out]
    exact HH.out.join HUU.out HVV.out huv
  · exact (HX3.out.off (by show b ≠ m; exact hbm) _).cnt c
  · have h1 := HX2.out.par HX4.out u
    rw [List.set_comm _ _ huv] at h1
    exact h1.off (by show m ≠ b; exact fun e => hbm e.symm) _
  · exact (HX1.out.trans (Touch.set (a := ⟨b, v * 3, none⟩) (.inl rfl) _) (fun _ _ h => h)).trans (Touch.set (a := ⟨m, 1, none⟩) (.inr rfl) _) (fun _ _ h => h)

end Go.Proofs.Yteblcmebhfjbnaa
