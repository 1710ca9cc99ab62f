/- NsetSpans, walked. -/
import Derived.Test.YtpgefmhjhiemkaaZ6
import Derived.Test.YtpgefmhjhiemkaaY6
import Derived.Deep.DeepCutAuto
namespace Go.Proofs.Ytpgefmhjhiemkaa
open Go.RowKit
set_option maxRecDepth 100000 in
set_option maxHeartbeats 4000000 in
theorem spans_walk (A B : Option Addr) (n c m d : Nat) (l k : List Int) (x : Int) (w : World) (hA : IntsAt w A n c l) (hc : n ≤ c) (hB : IntsAt w B m d k) (hd : m ≤ d) :
    Calls Try.prog 5 #[.slice A n c, .slice B m d, .int .i64 x] w fun e w' => e = .returned (.bool true) ∧ w.grownBy w' none := by
  have HA := Lib.hid hA
  have HB := Lib.hid hB
  go_enter Try.func5, Try.ntmps5
  go_wp2_with fail
  refine (shown_any w).mono ?_
  rintro e w1 ⟨rfl, hg⟩
  have HG1 := Lib.hid hg
  clear hg
  go_wp2_with fail
  refine (few_any A n c l w1 (HA.out.keep HG1.out) hc).mono ?_
  rintro e w2 ⟨A1, n1, c1, rfl, hI, rfl⟩
  have HI := Lib.hid hI
  clear hI
  have hl3 : (l.take 300).length ≤ 300 := by rw [List.length_take]; omega
  generalize l.take 300 = p at *
  clear hA hc HA
  have HW1 := Lib.hid (Wd.first w1)
  have hE := addsI_len_le p []
  rw [List.length_nil] at hE
  go_wp2_with fail
  refine (wd_new HW1.out (Ls.arg HW1.out HI.out) (by omega)).mono ?_
  rintro e w2 ⟨s, os, rfl, hw, hx, hlts, hnes⟩
  have HW2 := Lib.hid (hw)
  clear hw hx HW1
  obtain ⟨E0, he⟩ : ∃ E, E = addsI [] p := ⟨_, rfl⟩
  rw [← he] at HW2 hE
  clear he
  go_wp2_with fail
  refine (few_old B m d k w HB.out hd w2).mono ?_
  rintro e w3 ⟨B1, m1, d1, rfl, hI, rfl⟩
  have HJ := Lib.hid (Ls.arg HW2.out (hI.keep HG1.out))
  clear hI
  have hk3 : (k.take 300).length ≤ 300 := by rw [List.length_take]; omega
  generalize k.take 300 = q at *
  clear hB hd HB
  have hD := addsI_len_le q []
  rw [List.length_nil] at hD
  go_wp2_with fail
  refine (wd_new HW2.out HJ.out (by omega)).mono ?_
  rintro e w3 ⟨t, ot, rfl, hw, hx, hltt, hnet⟩
  have HW3 := Lib.hid (hw)
  clear hw hx HW2
  obtain ⟨D, hd⟩ : ∃ D, D = addsI [] q := ⟨_, rfl⟩
  rw [← hd] at HW3 hD
  clear hd HJ
  have hts : t ≠ s := fun e => hnet _ mem0 e.symm
  have HWq := Lib.hid (HW3.out.sub (M := [(s, E0), (t, D)]) (by simp))
  clear HW3
  have HW3q := HWq
  clear HWq
  go_wp2_with fail
  refine (wd_union HW3q.out (by simp [hts]) mem0).mono ?_
  rintro e w4 ⟨rfl, o4, hw, hx⟩
  have HW4 := Lib.hid (hw)
  clear hw hx HW3q
  have hEl := addsI_len_le D E0
  generalize addsI E0 D = E at *
  have HWq := Lib.hid (HW4.out.sub (M := [(s, E)]) (by simp))
  clear HW4
  have HW4q := HWq
  clear HWq
  have HOK := Lib.hid (HW4q.out.sets s E mem0).ok
  obtain ⟨iv, hiv, hels⟩ := runs_of HOK.out.1
  have HSP := Lib.hid (show spG none E = flatI iv by rw [← hels]; exact spG_els none hiv (fun _ _ h => by cases h))
  have HIV := Lib.hid hiv
  have HEL := Lib.hid hels
  have hlen : E.length ≤ 600 := by omega
  have hge : iv.length ≤ E.length := by rw [← hels]; exact els_len_ge hiv
  clear hiv hels hEl hE hD
  go_wp2_with fail
  refine (wd_spans HW4q.out mem0).mono ?_
  rintro e w5 ⟨Aa, na, ca, rfl, hL, hg⟩
  have Ha5 := Lib.hid hL
  have HW5 := Lib.hid (HW4q.out.keep hg)
  clear hL hg HW4q
  rw [HSP.out] at Ha5
  have hn : na = 2 * iv.length := by rw [Ha5.out.1.1, flatI_len]
  have hmod : (na : Int).tmod 2 = 0 := by rw [hn, Int.natCast_mul]; exact Int.mul_tmod_right _ _
  have hle : (na : Int) ≤ 2 * (E.length : Int) := by omega
  have hw : IntKind.i64.wrap (2 * (E.length : Int)) = 2 * (E.length : Int) := IntWalk.i64_in _ (by omega)
  have HN := Lib.hid hn
  have hnb : na ≤ 1200 := by omega
  clear hn
  go_wp2_with fail
  refine (wd_len HW5.out mem0).mono ?_
  rintro e w6 ⟨rfl, hg⟩
  have HW6 := Lib.hid (HW5.out.keep hg)
  have Ha6 := Lib.hid (Ha5.out.keep hg)
  clear hg HW5 Ha5
  go_wp2_with fail
  clear hmod hle hw
  go_loopw [12, 10, 11] (fun i g f wr => ∃ (k i0 : Nat), k ≤ iv.length ∧ i0 = 2 * k ∧ i = .int .i64 i0 ∧ g = .int .i64 (els (iv.take k)).length ∧ f = .bool (decide (x ∈ els (iv.take k))) ∧ w6.grownBy wr none) (fun i _ _ _ => na - (intOf i).toNat)
  case atStart => exact ⟨0, 0, Nat.zero_le _, rfl, rfl, rfl, rfl, grownBy_refl _ _⟩
  case round =>
    obtain ⟨k, i, hk, hi, rfl, rfl, rfl, hg⟩ := hrel
    have HG := Lib.hid hg
    have HI2 := Lib.hid hi
    clear hg
    by_cases hlt : k < iv.length
    · have HX := Lib.hid (show iv[k]? = some iv[k] from List.getElem?_eq_getElem hlt)
      generalize iv[k] = r at HX
      obtain ⟨a, b⟩ := r
      have hab : a ≤ b := HIV.out.at_ HX.out
      have HT := Lib.hid (els_take HX.out)
      have hT : (els (iv.take (k + 1))).length = (els (iv.take k)).length + (b - a + 1).toNat := by rw [HT.out, List.length_append, seqI_len]
      have hTl : (els (iv.take k)).length ≤ 600 := by
        have h1 := List.take_append_drop k iv
        have h2 : (els iv).length = (els (iv.take k)).length + (els (iv.drop k)).length := by rw [← List.length_append, ← els_app, h1]
        rw [HEL.out] at h2
        omega
      have ha : inS a := HOK.out.2 a (by rw [← HEL.out]; exact els_mem.2 ⟨(a, b), List.mem_of_getElem? HX.out, Int.le_refl _, hab⟩)
      have hb : inS b := HOK.out.2 b (by rw [← HEL.out]; exact els_mem.2 ⟨(a, b), List.mem_of_getElem? HX.out, hab, Int.le_refl _⟩)
      unfold inS at ha hb
      have HF := Lib.hid (show decide (x ∈ els (iv.take (k + 1))) = (decide (x ∈ els (iv.take k)) || (decide (a ≤ x) && decide (x ≤ b))) by
        rw [HT.out]
        by_cases h1 : x ∈ els (iv.take k) <;> by_cases h2 : a ≤ x <;> by_cases h3 : x ≤ b <;> simp [h1, h2, h3, seqI_mem] <;> omega)
      have hf := flatI_at iv k (a, b) HX.out
      rw [← hi] at hf
      have HPP := Lib.hid (fun (h : 0 < k) => show ∃ z : Int, (flatI iv)[i - 1]? = some z ∧ z + 1 < a ∧ inS z from by
        obtain ⟨j, rfl⟩ : ∃ j, k = j + 1 := ⟨k - 1, by omega⟩
        have hj : j < iv.length := by omega
        have h1 : iv[j]? = some iv[j] := List.getElem?_eq_getElem hj
        have h2 := flatI_at iv j _ h1
        have h3 := HIV.out.two h1 HX.out
        have h4 : i - 1 = 2 * j + 1 := by have := HI2.out; omega
        rw [h4]
        refine ⟨_, h2.2, h3, HOK.out.2 _ ?_⟩
        rw [← HEL.out]
        exact els_mem.2 ⟨_, List.mem_of_getElem? h1, HIV.out.at_ h1, Int.le_refl _⟩)
      have HFA := Lib.hid hf.1
      have HFB := Lib.hid hf.2
      obtain ⟨Q, hQ⟩ : ∃ Q : Nat, Q = (els (iv.take k)).length := ⟨_, rfl⟩
      obtain ⟨F, hF⟩ : ∃ F, F = decide (x ∈ els (iv.take k)) := ⟨_, rfl⟩
      rw [← hQ] at hT hTl ⊢
      rw [← hF] at HF ⊢
      have HTT := Lib.hid hT
      obtain ⟨j, hj⟩ : ∃ j, j = i + 1 := ⟨_, rfl⟩
      rw [← hj] at HFB
      have hjn : j < na := by have := HN.out; omega
      have hin : i < na := by omega
      have hw1 : IntKind.i64.wrap ((i : Int) + 1) = (j : Int) := by rw [IntWalk.i64_in _ (by omega)]; omega
      obtain ⟨ad, rfl, hx9⟩ := Ha6.out.1.at_ (show i < (flatI iv).length by rw [flatI_len]; omega)
      clear hx9
      have HC := Lib.hid (fun (W : World) (g : w6.grownBy W none) (q : Nat) (y : Int) (h : (flatI iv)[q]? = some y) => (Ha6.out.keep g).1.cellOf h)
      have HHJ := Lib.hid hj
      clear hQ hF hT hi hj hf
      go_upto_region 12 with fail
      go_cut [69] (fun s69 wx => s69 = .bool false ∧ w6.grownBy wx none)
      case first =>
        have hc1 := HC.out _ HG.out i a HFA.out
        have hc2 := HC.out _ HG.out j b HFB.out
        by_cases h0 : k = 0
        · have hd1 : decide (b < a) = false := decide_eq_false (by omega)
          have hd2 : decide (0 < (i : Int)) = false := decide_eq_false (by have := HI2.out; omega)
          have hd3 : decide (0 < i) = false := decide_eq_false (by have := HI2.out; omega)
          clear h0
          go_quiet (fail)
          go_wp2_with fail
          go_meet
          case rel => exact ⟨rfl, gr_drewN HG.out _⟩
        · have hi0 : 0 < (i : Int) := by have := HI2.out; omega
          obtain ⟨z, hz, hza, hzs⟩ := HPP.out (by omega)
          obtain ⟨h, hh⟩ : ∃ h, h = i - 1 := ⟨_, rfl⟩
          rw [← hh] at hz
          have hw2 : IntKind.i64.wrap ((i : Int) - 1) = (h : Int) := by rw [IntWalk.i64_in _ (by omega)]; omega
          have hc3 := HC.out _ HG.out h z hz
          have hw3 : IntKind.i64.wrap (z + 1) = z + 1 := IntWalk.i64_in _ (by unfold inS at hzs; omega)
          have hhn : h < na := by omega
          have HZ := Lib.hid hz
          have hd1 : decide (b < a) = false := decide_eq_false (by omega)
          have hd2 : decide (0 < (i : Int)) = true := decide_eq_true (by omega)
          have hd3 : decide (0 < i) = true := decide_eq_true (by omega)
          clear h0 hh hzs hz
          go_quiet (fail)
          go_wp2_with fail
          go_meet
          case rel => exact ⟨by rw [decide_eq_false (show ¬ a ≤ z + 1 by omega)], gr_drewN HG.out _⟩
      case rest =>
      obtain ⟨rfl, hg⟩ := hcut
      have HG2 := Lib.hid hg
      clear hg HG HPP
      go_upto_region 14 with fail
      have hc1 := HC.out _ HG2.out i a HFA.out
      have hc2 := HC.out _ HG2.out j b HFB.out
      have hv1 : IntKind.i64.wrap ((Q : Int) + b) = (Q : Int) + b := IntWalk.i64_in _ (by omega)
      have hv2 : IntKind.i64.wrap ((Q : Int) + b - a) = (Q : Int) + b - a := IntWalk.i64_in _ (by omega)
      have hv3 : IntKind.i64.wrap ((Q : Int) + b - a + 1) = (Q : Int) + b - a + 1 := IntWalk.i64_in _ (by omega)
      go_cut [10] (fun s10 wx => s10 = .int .i64 ((Q : Int) + b - a + 1) ∧ w6.grownBy wx none)
      case first =>
        go_quiet (fail)
        go_wp2_with fail
        go_meet
        case rel => exact ⟨rfl, gr_drewN HG2.out _⟩
      case rest =>
      obtain ⟨rfl, hg⟩ := hcut
      have HG3 := Lib.hid hg
      clear hg HG2 hc1 hc2 hv1 hv2 hv3
      have hc1 := HC.out _ HG3.out i a HFA.out
      have hc2 := HC.out _ HG3.out j b HFB.out
      have HFIN := Lib.hid (show (Q : Int) + b - a + 1 = ((els (iv.take (k + 1))).length : Int) by have := HTT.out; omega)
      rw [HFIN.out]
      cases F
      · by_cases hxa : a ≤ x
        · by_cases hxb : x ≤ b
          · go_wp2_with fail
            go_roundw
            case rel => exact ⟨k + 1, i + 2, hlt, by have := HI2.out; omega, by go_num, rfl, by rw [HF.out, decide_eq_true hxa, decide_eq_true hxb]; rfl, HG3.out⟩
            case measure => simp [intOf]; omega
          · go_wp2_with fail
            go_roundw
            case rel => exact ⟨k + 1, i + 2, hlt, by have := HI2.out; omega, by go_num, rfl, by rw [HF.out, decide_eq_true hxa, decide_eq_false hxb]; rfl, HG3.out⟩
            case measure => simp [intOf]; omega
        · go_wp2_with fail
          go_roundw
          case rel => exact ⟨k + 1, i + 2, hlt, by have := HI2.out; omega, by go_num, rfl, by rw [HF.out, decide_eq_false hxa]; rfl, HG3.out⟩
          case measure => simp [intOf]; omega
      · go_wp2_with fail
        go_roundw
        case rel => exact ⟨k + 1, i + 2, hlt, by have := HI2.out; omega, by go_num, rfl, by rw [HF.out]; rfl, HG3.out⟩
        case measure => simp [intOf]; omega
    · have HE := Lib.hid (show els (iv.take k) = E by rw [List.take_of_length_le (by omega)]; exact HEL.out)
      rw [HE.out]
      have hin : na ≤ i + 1 := by have := HN.out; omega
      have HW9 := Lib.hid (HW6.out.keep HG.out)
      have hib : i ≤ 1200 := by omega
      clear hi HG
      go_wp2_with fail
      refine (wd_len HW9.out mem0).mono ?_
      rintro e wa ⟨rfl, hg⟩
      have HWa := Lib.hid (HW9.out.keep hg)
      clear hg HW9
      obtain ⟨f, hf⟩ : ∃ f, f = decide (x ∈ E) := ⟨_, rfl⟩
      rw [← hf]
      have HFF := Lib.hid hf.symm
      clear hf
      go_wp2_with fail
      refine (wd_has x HWa.out mem0).mono ?_
      rintro e wb ⟨rfl, hg⟩
      rw [HFF.out]
      have HWb := Lib.hid (HWa.out.keep hg)
      clear hg HWa
      cases f
      all_goals
        go_wp2_with fail
        go_ret
        exact ⟨rfl, grownBy_trans HG1.out HWb.out.gr⟩

end Go.Proofs.Ytpgefmhjhiemkaa
