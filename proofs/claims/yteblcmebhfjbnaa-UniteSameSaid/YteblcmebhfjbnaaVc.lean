/- UniteSame, walked. -/
import Derived.Test.YteblcmebhfjbnaaV3
import Derived.Test.YteblcmebhfjbnaaY7
import Derived.Deep.DeepCutAuto
import Derived.Deep.RegionWith
namespace Go.Proofs.Yteblcmebhfjbnaa
open Go.RowKit
theorem cnt_range (n : Nat) : cntG (List.range n) = n := by
  have h : ∀ k : Nat, k ≤ n → cntP (fun i => decide ((List.range n)[i]? = some i)) k = k := fun k => by
    induction k with
    | zero => intro _; rfl
    | succ k ih =>
      intro hk
      rw [cntP, ih (by omega), if_pos (decide_eq_true (range_at (by omega)))]
  unfold cntG
  rw [List.length_range]
  exact h n (Nat.le_refl _)
theorem sumF_mono (f : Nat → Nat) {i : Nat} : ∀ {n : Nat}, i ≤ n → sumF f i ≤ sumF f n
  | 0, h => by rw [Nat.le_zero.1 h]; exact Nat.le_refl _
  | n + 1, h => by
    by_cases e : i = n + 1
    · rw [e]; exact Nat.le_refl _
    · rw [sumF]
      have := sumF_mono f (i := i) (n := n) (by omega)
      omega
/-- What a joining does. -/
theorem joinG_does {g : List Nat} (h : GOk g) (a b : Int) : (joinG g a b = (g, false) ∧ ¬ (0 ≤ findI g a ∧ 0 ≤ findI g b ∧ findI g a ≠ findI g b)) ∨
    ∃ (X Y : Nat) (g' : List Nat), findI g a = X ∧ findI g b = Y ∧ X ≠ Y ∧ joinG g a b = (g', true) ∧ cntG g = cntG g' + 1 ∧ findI g' a = ((min X Y : Nat) : Int) ∧ findI g' b = ((min X Y : Nat) : Int) := by
  rcases findI_cases g a with ⟨_, e1⟩ | ⟨i, X, rfl, g1, e1⟩
  · exact .inl ⟨if_pos (.inl (by omega)), by omega⟩
  rcases findI_cases g b with ⟨_, e2⟩ | ⟨j, Y, rfl, g2, e2⟩
  · exact .inl ⟨if_pos (.inr (.inl (by omega))), by omega⟩
  by_cases hxy : X = Y
  · exact .inl ⟨if_pos (.inr (.inr (by rw [e1, e2, hxy]))), by omega⟩
  · refine .inr ⟨X, Y, relab (min X Y) (max X Y) g, e1, e2, hxy, ?_, ?_, ?_, ?_⟩
    · rw [joinG, if_neg (by rw [e1, e2]; omega), e1, e2, Int.toNat_natCast, Int.toNat_natCast]
    · have hX := (h i X g1).2
      have hY := (h j Y g2).2
      refine cntG_join ?_ ?_ (by omega)
      · rcases Nat.le_total X Y with e | e
        · rw [Nat.min_eq_left e]; exact hX
        · rw [Nat.min_eq_right e]; exact hY
      · rcases Nat.le_total X Y with e | e
        · rw [Nat.max_eq_right e]; exact hY
        · rw [Nat.max_eq_left e]; exact hX
    · refine findI_in ?_
      rw [relab_at, g1, Option.map_some]
      congr 1
      split <;> omega
    · refine findI_in ?_
      rw [relab_at, g2, Option.map_some]
      congr 1
      split <;> omega
set_option maxRecDepth 100000 in
set_option maxHeartbeats 16000000 in
theorem same_walk (n : Nat) (hn : n < 256) (A : Option Addr) (c : Nat) (l : List (Int × Int)) (w : World) (hA : StrAt prC 2 w A l) :
    Calls Try.prog 4 #[.int .u8 n, .slice A l.length c] w fun e w' => e = .returned (.bool true) ∧ w.grownBy w' none := by
  have HA0 := Lib.hid hA
  clear hA
  go_enter Try.func4, Try.ntmps4
  go_wp2_with fail
  refine (shown_any w).mono ?_
  rintro e w1 ⟨rfl, hg⟩
  have HG1 := Lib.hid hg
  have HA := Lib.hid (HA0.out.keep hg)
  clear hg HA0
  go_wp2_with fail
  refine (wg_new n (Wd.first w1)).mono ?_
  rintro e w2 ⟨m, o2, rfl, hw, _⟩
  rw [show szN (n : Int) = n by unfold szN; rw [if_neg (by omega), if_neg (by omega), Int.toNat_natCast]] at hw
  have HW2 := Lib.hid hw
  clear hw
  go_wp2_with fail
  refine (wg_count HW2.out mem0).mono ?_
  rintro e w3 ⟨rfl, hg⟩
  rw [cnt_range]
  have HW3 := Lib.hid (HW2.out.keep hg)
  clear hg HW2
  go_wp2_with fail
  go_loopw [7] (fun i wr => ∃ (q : Nat) (own : Nat → Option Nat) (G : List Nat), q ≤ l.length ∧ q ≤ 300 ∧ i = .int .i64 q ∧ G.length = n ∧ Wd w1 wr own [(m, G)]) (fun i _ => l.length - (intOf i).toNat)
  case atStart => exact ⟨0, o2, _, Nat.zero_le _, Nat.zero_le _, rfl, List.length_range, HW3.out⟩
  case round =>
    obtain ⟨q, own, G, hq, hq3, rfl, hGn, hW⟩ := hrel
    have HW := Lib.hid hW
    clear hW HW3
    have hOK := HW.out.ok mem0
    have HOK := Lib.hid hOK
    clear hOK
    have hcl := cntP_le_n (fun i => decide (G[i]? = some i)) G.length
    go_upto_region 6 with fail
    go_cut [35] (fun v wx => v = .bool (decide (q < l.length ∧ q < 300)) ∧ wx = wr)
    case first =>
      by_cases h1 : q < l.length
      · by_cases h2 : q < 300
        · go_wp2_with fail
          go_meet
          case rel => exact ⟨congrArg Value.bool (decide_eq_decide.2 ⟨fun _ => ⟨h1, h2⟩, fun _ => by omega⟩), rfl⟩
        · go_wp2_with fail
          go_meet
          case rel => exact ⟨congrArg Value.bool (decide_eq_decide.2 ⟨fun h => absurd (by omega) h2, fun h => absurd h.2 h2⟩), rfl⟩
      · go_wp2_with fail
        go_meet
        case rel => exact ⟨congrArg Value.bool (decide_eq_false (p := q < l.length ∧ q < 300) fun h => h1 h.1).symm, rfl⟩
    case rest =>
    obtain ⟨rfl, hwc⟩ := hcut
    have hwc' := hwc.symm
    subst hwc'
    by_cases hlt : q < l.length ∧ q < 300
    · have HX := Lib.hid (show l[q]? = some l[q] from List.getElem?_eq_getElem hlt.1)
      generalize l[q] = p at HX
      obtain ⟨a, b⟩ := p
      obtain ⟨ad, rfl⟩ := HA.out.some_ hlt.1
      rw [decide_eq_true hlt]
      obtain ⟨hlt1, hlt2⟩ := hlt
      have HC := Lib.hid (fun (W : World) (g : w1.grownBy W none) => pair_cells (HA.out.keep g) HX.out)
      obtain ⟨hc1, hc2⟩ := HC.out _ HW.out.gr
      try dsimp only at hc1 hc2
      have HJ := Lib.hid (joinG_does HOK.out.1 a b)
      have HJL := Lib.hid (joinG_len G a b)
      have hcnt : cntG G ≤ n := by rw [← hGn]; exact hcl
      clear hcl
      obtain ⟨x, hx⟩ : ∃ x, x = findI G a := ⟨_, rfl⟩
      obtain ⟨y, hy⟩ : ∃ y, y = findI G b := ⟨_, rfl⟩
      obtain ⟨cc, hcc⟩ : ∃ c, c = cntG G := ⟨_, rfl⟩
      rw [← hx, ← hy, ← hcc] at HJ
      rw [← hcc] at hcnt
      have HXE := Lib.hid hx.symm
      have HYE := Lib.hid hy.symm
      have HCE := Lib.hid hcc.symm
      clear hx hy hcc
      go_wp2_with fail
      refine (wg_find a HW.out (by simp)).mono ?_
      rintro e w4 ⟨rfl, o4, hw, _⟩
      rw [HXE.out]
      have HW4 := Lib.hid hw
      clear hw HW hc1 hc2
      obtain ⟨hc1, hc2⟩ := HC.out _ HW4.out.gr
      try dsimp only at hc1 hc2
      go_wp2_with fail
      refine (wg_find b HW4.out (by simp)).mono ?_
      rintro e w5 ⟨rfl, o5, hw, _⟩
      rw [HYE.out]
      have HW5 := Lib.hid hw
      clear hw HW4 hc1 hc2
      go_wp2_with fail
      refine (wg_count HW5.out mem0).mono ?_
      rintro e w6 ⟨rfl, hg⟩
      rw [HCE.out]
      have HW6 := Lib.hid (HW5.out.keep hg)
      clear hg HW5
      obtain ⟨hc1, hc2⟩ := HC.out _ HW6.out.gr
      try dsimp only at hc1 hc2
      obtain ⟨J, hJ⟩ : ∃ J, J = joinG G a b := ⟨_, rfl⟩
      rw [← hJ] at HJ HJL
      have HJJ := Lib.hid hJ
      clear hJ
      go_upto_region 11 with fail
      go_cut [11] (fun f wx => f = .bool J.2 ∧ ∃ own', Wd w1 wx own' [(m, J.1)])
      case first =>
        have HJO := Lib.hid (fun (W : World) (hW : w6.grownBy W none) => wg_join a b (HW6.out.keep hW) (by simp))
        have hdr : w6.grownBy w6.drew none := (grownBy_refl w6 none).gr_drew
        go_region_with (go_at_call 13; refine (HJO.out _ (by assumption)).mono ?_; rintro e' wz ⟨rfl, o7, hw, hx⟩)
        all_goals
          go_wp2_with fail
          go_meet
          case rel => exact ⟨by rw [← HJJ.out], o7, by rw [HJJ.out]; exact hw⟩
      case rest =>
      obtain ⟨rfl, o7, hw⟩ := hcut
      have HW7 := Lib.hid hw
      clear hw hc1 hc2 HW6 HJJ
      obtain ⟨hc1, hc2⟩ := HC.out _ HW7.out.gr
      try dsimp only at hc1 hc2
      obtain ⟨G2, j2⟩ := J
      dsimp only at HJL HW7 ⊢
      rcases HJ.out with ⟨e1, hno⟩ | ⟨X, Y, g', hX, hY, hXY, e1, hc', hf1, hf2⟩
      · injection e1 with e1 e2
        subst e1 e2
        clear HJ
        have hends : (x < 0) ∨ (0 ≤ x ∧ y < 0) ∨ (0 ≤ x ∧ 0 ≤ y ∧ x = y) := by omega
        clear hno
        rcases hends with h1 | ⟨h1, h2⟩ | ⟨h1, h2, rfl⟩
        all_goals
          go_wp2_with fail
          refine (wg_count HW7.out mem0).mono ?_
          rintro e w8 ⟨rfl, hg⟩
          rw [HCE.out]
          have HW8 := Lib.hid (HW7.out.keep hg)
          clear hg HW7
          go_wp2_with fail
          go_roundw
          case rel => exact ⟨q + 1, o7, G2, by omega, by omega, by go_num, hGn, HW8.out⟩
          case measure => simp [intOf]; omega
      · injection e1 with e1 e2
        subst e1 e2
        have hx0 : 0 ≤ x := by omega
        have hy0 : 0 ≤ y := by omega
        have hb1 : (x == y) = false := by simp; omega
        have hb2 : (x != y) = true := by simp; omega
        obtain ⟨z, hz⟩ : ∃ z : Int, z = ((min X Y : Nat) : Int) := ⟨_, rfl⟩
        rw [← hz] at hf1 hf2
        have HF1 := Lib.hid hf1
        have HF2 := Lib.hid hf2
        have hw1 : IntKind.i64.wrap ((cc : Int) - 1) = (cntG G2 : Int) := by rw [IntWalk.i64_in _ (by omega)]; omega
        have hord : (x ≤ y ∧ z = x) ∨ (y < x ∧ z = y) := by omega
        clear HJ hX hY hXY hc' hf1 hf2 hz
        go_wp2_with fail
        refine (wg_count HW7.out mem0).mono ?_
        rintro e w8 ⟨rfl, hg⟩
        have HW8 := Lib.hid (HW7.out.keep hg)
        clear hg HW7 hc1 hc2
        obtain ⟨hc1, hc2⟩ := HC.out _ HW8.out.gr
        try dsimp only at hc1 hc2
        rcases hord with ⟨h1, rfl⟩ | ⟨h1, rfl⟩
        all_goals
          go_wp2_with fail
          refine (wg_find a HW8.out (by simp)).mono ?_
          rintro e w9 ⟨rfl, o9, hw, _⟩
          rw [HF1.out]
          have HW9 := Lib.hid hw
          clear hw HW8 hc1 hc2
          obtain ⟨hc1, hc2⟩ := HC.out _ HW9.out.gr
          try dsimp only at hc1 hc2
          go_wp2_with fail
          refine (wg_find b HW9.out (by simp)).mono ?_
          rintro e wa ⟨rfl, oa, hw, _⟩
          rw [HF2.out]
          have HWa := Lib.hid hw
          clear hw HW9 hc1 hc2
          go_wp2_with fail
          go_roundw
          case rel => exact ⟨q + 1, oa, G2, by omega, by omega, by go_num, HJL.out.trans hGn, HWa.out⟩
          case measure => simp [intOf]; omega
    · rw [decide_eq_false hlt]
      have HSUM := Lib.hid (siz_all HOK.out.1)
      have HCN := Lib.hid (show cntG G = cntP (fun i => decide (G[i]? = some i)) n by unfold cntG; rw [hGn])
      rw [hGn] at HSUM
      clear hlt hcl
      have HMONO := Lib.hid (fun (i : Nat) (h : i ≤ n) => sumF_mono (fun t => if G[t]? = some t then sizG G t else 0) (i := i) (n := n) h)
      go_wp2_with fail
      go_loopw [14, 12, 13] (fun i s t wr => ∃ (z : Nat) (own : Nat → Option Nat), z ≤ n ∧ i = .int .i64 z ∧ s = .int .i64 (sumF (fun t => if G[t]? = some t then sizG G t else 0) z) ∧ t = .int .i64 (cntP (fun i => decide (G[i]? = some i)) z) ∧ Wd w1 wr own [(m, G)]) (fun i _ _ _ => n - (intOf i).toNat)
      case atStart => exact ⟨0, own, Nat.zero_le _, rfl, rfl, rfl, HW.out⟩
      case round =>
        obtain ⟨z, own2, hz, rfl, rfl, rfl, hW⟩ := hrel
        have HW2 := Lib.hid hW
        clear hW HW
        have hsb := HMONO.out z hz
        rw [HSUM.out] at hsb
        have hcb := cntP_le_n (fun i => decide (G[i]? = some i)) z
        have HS1 := Lib.hid (show sumF (fun t => if G[t]? = some t then sizG G t else 0) (z + 1) = sumF (fun t => if G[t]? = some t then sizG G t else 0) z + if G[z]? = some z then sizG G z else 0 from rfl)
        have HC1 := Lib.hid (show cntP (fun i => decide (G[i]? = some i)) (z + 1) = cntP (fun i => decide (G[i]? = some i)) z + if decide (G[z]? = some z) = true then 1 else 0 from rfl)
        by_cases hzn : z < n
        · have hsb2 := HMONO.out (z + 1) hzn
          rw [HSUM.out, HS1.out] at hsb2
          have HX := Lib.hid (show G[z]? = some (G[z]'(by omega)) from List.getElem?_eq_getElem (by omega))
          generalize G[z]'(by omega) = k at HX
          obtain ⟨hk1, hk2⟩ := HOK.out.1 z k HX.out
          have hkf := findI_in HX.out
          have hkk := findI_in hk2
          obtain ⟨S, hS⟩ : ∃ S, S = sumF (fun t => if G[t]? = some t then sizG G t else 0) z := ⟨_, rfl⟩
          obtain ⟨T, hT⟩ : ∃ T, T = cntP (fun i => decide (G[i]? = some i)) z := ⟨_, rfl⟩
          rw [← hS] at HS1 hsb hsb2 ⊢
          rw [← hT] at HC1 hcb ⊢
          rw [HX.out] at HS1 HC1 hsb2
          obtain ⟨v, hv⟩ : ∃ v : Int, v = (k : Int) := ⟨_, rfl⟩
          have hv0 : 0 ≤ v := by omega
          have hvz : v ≤ (z : Int) := by omega
          rw [← hv] at hkf hkk
          have HKF := Lib.hid hkf
          have HKK := Lib.hid hkk
          have HSB := Lib.hid hsb
          have HSB2 := Lib.hid hsb2
          have HCB := Lib.hid hcb
          have HVE := Lib.hid hv
          clear hS hT hkf hkk hk1 hk2 hsb hsb2 hcb hv
          have hvv : (v != v) = false := by simp
          go_wp2_with fail
          refine (wg_find z HW2.out (by simp)).mono ?_
          rintro e w4 ⟨rfl, o4, hw, _⟩
          rw [HKF.out]
          have HW4 := Lib.hid hw
          clear hw HW2
          go_wp2_with fail
          refine (wg_find z HW4.out (by simp)).mono ?_
          rintro e w5 ⟨rfl, o5, hw, _⟩
          rw [HKF.out]
          have HW5 := Lib.hid hw
          clear hw HW4
          go_wp2_with fail
          refine (wg_find z HW5.out (by simp)).mono ?_
          rintro e w6 ⟨rfl, o6, hw, _⟩
          rw [HKF.out]
          have HW6 := Lib.hid hw
          clear hw HW5
          go_wp2_with fail
          refine (wg_find v HW6.out (by simp)).mono ?_
          rintro e w7 ⟨rfl, o7, hw, _⟩
          rw [HKK.out]
          have HW7 := Lib.hid hw
          clear hw HW6
          go_wp2_with fail
          refine (wg_find z HW7.out (by simp)).mono ?_
          rintro e w8 ⟨rfl, o8, hw, _⟩
          rw [HKF.out]
          have HW8 := Lib.hid hw
          clear hw HW7
          go_wp2_with fail
          refine (wg_find z HW8.out (by simp)).mono ?_
          rintro e w9 ⟨rfl, o9, hw, _⟩
          rw [HKF.out]
          have HW9 := Lib.hid hw
          clear hw HW8
          have hsb2 := HSB2.out
          have hcb := HCB.out
          have hv := HVE.out
          clear HSB HSB2 HCB HVE
          by_cases hkz : k = z
          · have hs : sizI G (z : Int) = sizG G z := by rw [sizI, HKF.out, if_neg (by omega), hv, hkz, Int.toNat_natCast]
            rw [if_pos (by rw [hkz])] at HS1 hsb2
            rw [if_pos (by simp [hkz])] at HC1
            have hb : (v == (z : Int)) = true := by simp; omega
            clear hv hkz hvz
            go_wp2_with fail
            refine (wg_size z HW9.out (by simp)).mono ?_
            rintro e wa ⟨rfl, oa, hw, _⟩
            rw [hs]
            have HWa := Lib.hid hw
            clear hw HW9 hs
            generalize sizG G z = sz at *
            have hws : IntKind.i64.wrap ((S : Int) + (sz : Int)) = (S : Int) + (sz : Int) := IntWalk.i64_in _ (by omega)
            go_wp2_with fail
            go_roundw
            case rel => exact ⟨z + 1, oa, hzn, by go_num, by rw [HS1.out]; go_num, by rw [HC1.out]; go_num, HWa.out⟩
            case measure => simp [intOf]; omega
          · rw [if_neg (by simp [hkz])] at HS1
            rw [if_neg (by simp [hkz])] at HC1
            rw [if_neg (by simp [hkz])] at hsb2
            have hb : (v == (z : Int)) = false := by simp; omega
            clear hv hkz hvz
            go_wp2_with fail
            go_roundw
            case rel => exact ⟨z + 1, o9, hzn, by go_num, by rw [HS1.out, Nat.add_zero], by rw [HC1.out, Nat.add_zero], HW9.out⟩
            case measure => simp [intOf]; omega
        · obtain rfl : z = n := by omega
          rw [HSUM.out, ← HCN.out]
          rw [← HCN.out] at hcb
          clear hsb
          go_wp2_with fail
          refine (wg_count HW2.out mem0).mono ?_
          rintro e w4 ⟨rfl, hg⟩
          have HW4 := Lib.hid (HW2.out.keep hg)
          clear hg HW2
          go_wp2_with fail
          go_ret
          exact ⟨rfl, grownBy_trans HG1.out HW4.out.gr⟩

end Go.Proofs.Yteblcmebhfjbnaa
