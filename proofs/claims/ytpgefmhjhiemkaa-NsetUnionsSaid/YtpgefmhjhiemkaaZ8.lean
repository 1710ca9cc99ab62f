/- NsetUnions, walked. -/
import Derived.Test.YtpgefmhjhiemkaaZ6
namespace Go.Proofs.Ytpgefmhjhiemkaa
open Go.RowKit
set_option maxRecDepth 100000 in
set_option maxHeartbeats 4000000 in
theorem unions_walk (A B : Option Addr) (n c m d : Nat) (l k : List Int) (w : World) (hA : IntsAt w A n c l) (hc : n ≤ c) (hB : IntsAt w B m d k) (hd : m ≤ d) :
    Calls Try.prog 4 #[.slice A n c, .slice B m d] w fun e w' => e = .returned (.bool true) ∧ w.grownBy w' none := by
  have HA := Lib.hid hA
  have HB := Lib.hid hB
  go_enter Try.func4, Try.ntmps4
  go_wp2_with fail
  refine (shown_any w).mono ?_
  rintro e w1 ⟨rfl, hg⟩
  have HG1 := Lib.hid hg
  clear hg
  go_wp2_with fail
  refine (few_any A n c l w1 (HA.out.keep HG1.out) hc).mono ?_
  rintro e w2 ⟨A1, n1, c1, rfl, hI, rfl⟩
  have HI := Lib.hid hI
  clear hI
  go_wp2_with fail
  refine (few_any B m d k w1 (HB.out.keep HG1.out) hd).mono ?_
  rintro e w2 ⟨B1, m1, d1, rfl, hI, rfl⟩
  have HJ := Lib.hid hI
  clear hI
  have hl3 : (l.take 300).length ≤ 300 := by rw [List.length_take]; omega
  have hk3 : (k.take 300).length ≤ 300 := by rw [List.length_take]; omega
  generalize l.take 300 = p at *
  generalize k.take 300 = q at *
  clear hA hc HA hB hd HB
  have HW1 := Lib.hid (Wd.first w1)
  have hE := addsI_len_le p []
  have hD := addsI_len_le q []
  rw [List.length_nil] at hE hD
  go_wp2_with fail
  refine (wd_new HW1.out (Ls.arg HW1.out HI.out) (by omega)).mono ?_
  rintro e w2 ⟨s, os, rfl, hw, hx, hlts, hnes⟩
  have HW2 := Lib.hid (hw)
  clear hw hx HW1
  go_wp2_with fail
  refine (wd_new HW2.out (Ls.arg HW2.out HJ.out) (by omega)).mono ?_
  rintro e w3 ⟨t, ot, rfl, hw, hx, hltt, hnet⟩
  have HW3 := Lib.hid (hw)
  clear hw hx HW2
  obtain ⟨E, he⟩ : ∃ E, E = addsI [] p := ⟨_, rfl⟩
  obtain ⟨D, hd⟩ : ∃ D, D = addsI [] q := ⟨_, rfl⟩
  rw [← he] at HW3 hE
  rw [← hd] at HW3 hD
  have HEE := Lib.hid he
  have HDD := Lib.hid hd
  clear he hd
  go_wp2_with fail
  refine (r13_Of_any A1 n1 c1 p _ (HI.out.keep HW3.out.gr) (by omega)).mono ?_
  rintro e w4 ⟨Aa, na, ca, rfl, hI, hg, hA⟩
  have Ha4 := Lib.hid (Ls.made HW3.out hI hA)
  have HW4 := Lib.hid (HW3.out.keep hg)
  clear hI hg hA HW3
  rw [← HEE.out] at Ha4
  go_wp2_with fail
  refine (r13_Of_any B1 m1 d1 q _ (HJ.out.keep HW4.out.gr) (by omega)).mono ?_
  rintro e w5 ⟨Ab, nb, cb, rfl, hI, hg, hA⟩
  have Hb5 := Lib.hid (Ls.made HW4.out hI hA)
  have HW5 := Lib.hid (HW4.out.keep hg)
  have Ha5 := Lib.hid (Ha4.out.keep hg)
  clear hI hg hA HW4 Ha4
  rw [← HDD.out] at Hb5
  have hEl : E.length ≤ 300 := by omega
  have hDl : D.length ≤ 300 := by omega
  clear hE hD
  go_wp2_with fail
  refine (wd_minus HW5.out mem1 mem0).mono ?_
  rintro e w6 ⟨u, ou, rfl, hw, hx, hltu, hneu⟩
  have HW6 := Lib.hid (hw)
  have Ha6 := Lib.hid (Ha5.out.ext hx)
  have Hb6 := Lib.hid (Hb5.out.ext hx)
  clear hw hx HW5 Ha5 Hb5
  have hts : t ≠ s := hnet _ mem0 |> fun h => fun e => h e.symm
  have hus : u ≠ s := hneu _ mem1 |> fun h => fun e => h e.symm
  have HWs := Lib.hid (HW6.out.sub (M := [(s, E), (t, D), (u, minusI E D)]) (by simp))
  clear HW6
  go_wp2_with fail
  refine (wd_union HWs.out (by simp [hts, hus]) mem0).mono ?_
  rintro e w7 ⟨rfl, o7, hw, hx⟩
  have HW7 := Lib.hid (hw)
  have Ha7 := Lib.hid (Ha6.out.ext hx)
  have Hb7 := Lib.hid (Hb6.out.ext hx)
  clear hw hx HWs Ha6 Hb6
  go_wp2_with fail
  refine (r13_Union_any _ _ _ _ _ _ E D _ Ha7.out.1 Hb7.out.1 (by omega) (by omega)).mono ?_
  rintro e w8 ⟨C, nC, cC, rfl, hI, hg, hA⟩
  have Hc8 := Lib.hid (Ls.made2 HW7.out Ha7.out hI hA)
  have HW8 := Lib.hid (HW7.out.keep hg)
  have Ha8 := Lib.hid (Ha7.out.keep hg)
  have Hb8 := Lib.hid (Hb7.out.keep hg)
  clear hI hg hA HW7 Ha7 Hb7
  have hF := addsI_len_le D E
  obtain ⟨F, hf⟩ : ∃ F, F = addsI E D := ⟨_, rfl⟩
  obtain ⟨M, hM⟩ : ∃ M, M = minusI E D := ⟨_, rfl⟩
  have hMl := minusI_len_le E D
  rw [← hf] at HW8 Hc8 hF
  rw [← hM] at HW8 hMl
  have HMM := Lib.hid hM
  have HOF := Lib.hid (HW8.out.sets s F mem0).ok
  have HOM := Lib.hid (HW8.out.sets u M mem2).ok
  clear hf hM
  have hFs := spG_len F none
  have hMs := spG_len M none
  obtain ⟨b, hb⟩ : ∃ b, b = newsI E D := ⟨_, rfl⟩
  rw [← hb]
  clear hb
  cases b
  all_goals
    go_wp2_with fail
    refine (wd_list HW8.out mem0).mono ?_
    rintro e w9 ⟨Af, nf, cf, rfl, hL, hg⟩
    have Hf9 := Lib.hid hL
    have HW9 := Lib.hid (HW8.out.keep hg)
    have Ha9 := Lib.hid (Ha8.out.keep hg)
    have Hb9 := Lib.hid (Hb8.out.keep hg)
    have Hc9 := Lib.hid (Hc8.out.keep hg)
    clear hL hg HW8 Ha8 Hb8 Hc8
    go_wp2_with fail
    refine (Ints_any _ _ _ _ _ _ F F _ Hf9.out.1 Hc9.out.1 (by omega)).mono ?_
    rintro e w10 ⟨rfl, hg⟩
    rw [decide_eq_true rfl]
    have HW10 := Lib.hid (HW9.out.keep hg)
    have Ha10 := Lib.hid (Ha9.out.keep hg)
    have Hb10 := Lib.hid (Hb9.out.keep hg)
    have Hc10 := Lib.hid (Hc9.out.keep hg)
    have Hf10 := Lib.hid (Hf9.out.keep hg)
    clear hg HW9 Ha9 Hb9 Hc9 Hf9
    clear Hf10
    go_wp2_with fail
    refine (wd_spans HW10.out mem0).mono ?_
    rintro e w11 ⟨Af, nf, cf, rfl, hL, hg⟩
    have Hf11 := Lib.hid hL
    have HW11 := Lib.hid (HW10.out.keep hg)
    have Ha11 := Lib.hid (Ha10.out.keep hg)
    have Hb11 := Lib.hid (Hb10.out.keep hg)
    have Hc11 := Lib.hid (Hc10.out.keep hg)
    clear hL hg HW10 Ha10 Hb10 Hc10
    go_wp2_with fail
    refine (r13_Spans_any _ _ _ F _ Hc11.out.1 (by omega) HOF.out.2).mono ?_
    rintro e w12 ⟨Ag, ng, cg, rfl, hI, hg, hA⟩
    have Hg12 := Lib.hid (Ls.made HW11.out hI hA)
    have HW12 := Lib.hid (HW11.out.keep hg)
    have Ha12 := Lib.hid (Ha11.out.keep hg)
    have Hb12 := Lib.hid (Hb11.out.keep hg)
    have Hc12 := Lib.hid (Hc11.out.keep hg)
    have Hf12 := Lib.hid (Hf11.out.keep hg)
    clear hI hg hA HW11 Ha11 Hb11 Hc11 Hf11
    go_wp2_with fail
    refine (Ints_any _ _ _ _ _ _ (spG none F) (spG none F) _ Hf12.out.1 Hg12.out.1 (by omega)).mono ?_
    rintro e w13 ⟨rfl, hg⟩
    rw [decide_eq_true rfl]
    have HW13 := Lib.hid (HW12.out.keep hg)
    have Ha13 := Lib.hid (Ha12.out.keep hg)
    have Hb13 := Lib.hid (Hb12.out.keep hg)
    have Hc13 := Lib.hid (Hc12.out.keep hg)
    have Hf13 := Lib.hid (Hf12.out.keep hg)
    have Hg13 := Lib.hid (Hg12.out.keep hg)
    clear hg HW12 Ha12 Hb12 Hc12 Hf12 Hg12
    clear Hf13
    clear Hg13
    go_wp2_with fail
    refine (wd_list HW13.out mem1).mono ?_
    rintro e w14 ⟨Af, nf, cf, rfl, hL, hg⟩
    have Hf14 := Lib.hid hL
    have HW14 := Lib.hid (HW13.out.keep hg)
    have Ha14 := Lib.hid (Ha13.out.keep hg)
    have Hb14 := Lib.hid (Hb13.out.keep hg)
    have Hc14 := Lib.hid (Hc13.out.keep hg)
    clear hL hg HW13 Ha13 Hb13 Hc13
    go_wp2_with fail
    refine (Ints_any _ _ _ _ _ _ D D _ Hf14.out.1 Hb14.out.1 (by omega)).mono ?_
    rintro e w15 ⟨rfl, hg⟩
    rw [decide_eq_true rfl]
    have HW15 := Lib.hid (HW14.out.keep hg)
    have Ha15 := Lib.hid (Ha14.out.keep hg)
    have Hb15 := Lib.hid (Hb14.out.keep hg)
    have Hc15 := Lib.hid (Hc14.out.keep hg)
    have Hf15 := Lib.hid (Hf14.out.keep hg)
    clear hg HW14 Ha14 Hb14 Hc14 Hf14
    clear Hf15
    go_wp2_with fail
    refine (wd_list HW15.out mem2).mono ?_
    rintro e w16 ⟨Af, nf, cf, rfl, hL, hg⟩
    have Hf16 := Lib.hid hL
    have HW16 := Lib.hid (HW15.out.keep hg)
    have Ha16 := Lib.hid (Ha15.out.keep hg)
    have Hb16 := Lib.hid (Hb15.out.keep hg)
    have Hc16 := Lib.hid (Hc15.out.keep hg)
    clear hL hg HW15 Ha15 Hb15 Hc15
    go_wp2_with fail
    refine (r13_Minus_any _ _ _ _ _ _ E D _ Ha16.out.1 Hb16.out.1 (by omega) (by omega)).mono ?_
    rintro e w17 ⟨Ag, ng, cg, rfl, hI, hg, hA⟩
    have Hg17 := Lib.hid (Ls.made HW16.out hI hA)
    have HW17 := Lib.hid (HW16.out.keep hg)
    have Ha17 := Lib.hid (Ha16.out.keep hg)
    have Hb17 := Lib.hid (Hb16.out.keep hg)
    have Hc17 := Lib.hid (Hc16.out.keep hg)
    have Hf17 := Lib.hid (Hf16.out.keep hg)
    clear hI hg hA HW16 Ha16 Hb16 Hc16 Hf16
    rw [← HMM.out] at Hg17
    go_wp2_with fail
    refine (Ints_any _ _ _ _ _ _ M M _ Hf17.out.1 Hg17.out.1 (by omega)).mono ?_
    rintro e w18 ⟨rfl, hg⟩
    rw [decide_eq_true rfl]
    have HW18 := Lib.hid (HW17.out.keep hg)
    have Ha18 := Lib.hid (Ha17.out.keep hg)
    have Hb18 := Lib.hid (Hb17.out.keep hg)
    have Hc18 := Lib.hid (Hc17.out.keep hg)
    have Hf18 := Lib.hid (Hf17.out.keep hg)
    have Hg18 := Lib.hid (Hg17.out.keep hg)
    clear hg HW17 Ha17 Hb17 Hc17 Hf17 Hg17
    clear Hf18
    clear Hg18
    go_wp2_with fail
    refine (wd_spans HW18.out mem2).mono ?_
    rintro e w19 ⟨Af, nf, cf, rfl, hL, hg⟩
    have Hf19 := Lib.hid hL
    have HW19 := Lib.hid (HW18.out.keep hg)
    have Ha19 := Lib.hid (Ha18.out.keep hg)
    have Hb19 := Lib.hid (Hb18.out.keep hg)
    have Hc19 := Lib.hid (Hc18.out.keep hg)
    clear hL hg HW18 Ha18 Hb18 Hc18
    go_wp2_with fail
    refine (r13_Minus_any _ _ _ _ _ _ E D _ Ha19.out.1 Hb19.out.1 (by omega) (by omega)).mono ?_
    rintro e w20 ⟨Ag, ng, cg, rfl, hI, hg, hA⟩
    have Hg20 := Lib.hid (Ls.made HW19.out hI hA)
    have HW20 := Lib.hid (HW19.out.keep hg)
    have Ha20 := Lib.hid (Ha19.out.keep hg)
    have Hb20 := Lib.hid (Hb19.out.keep hg)
    have Hc20 := Lib.hid (Hc19.out.keep hg)
    have Hf20 := Lib.hid (Hf19.out.keep hg)
    clear hI hg hA HW19 Ha19 Hb19 Hc19 Hf19
    rw [← HMM.out] at Hg20
    go_wp2_with fail
    refine (r13_Spans_any _ _ _ M _ Hg20.out.1 (by omega) HOM.out.2).mono ?_
    rintro e w21 ⟨Ah, nh, ch, rfl, hI, hg, hA⟩
    have Hh21 := Lib.hid (Ls.made HW20.out hI hA)
    have HW21 := Lib.hid (HW20.out.keep hg)
    have Ha21 := Lib.hid (Ha20.out.keep hg)
    have Hb21 := Lib.hid (Hb20.out.keep hg)
    have Hc21 := Lib.hid (Hc20.out.keep hg)
    have Hf21 := Lib.hid (Hf20.out.keep hg)
    have Hg21 := Lib.hid (Hg20.out.keep hg)
    clear hI hg hA HW20 Ha20 Hb20 Hc20 Hf20 Hg20
    go_wp2_with fail
    refine (Ints_any _ _ _ _ _ _ (spG none M) (spG none M) _ Hf21.out.1 Hh21.out.1 (by omega)).mono ?_
    rintro e w22 ⟨rfl, hg⟩
    rw [decide_eq_true rfl]
    have HW22 := Lib.hid (HW21.out.keep hg)
    have Ha22 := Lib.hid (Ha21.out.keep hg)
    have Hb22 := Lib.hid (Hb21.out.keep hg)
    have Hc22 := Lib.hid (Hc21.out.keep hg)
    have Hf22 := Lib.hid (Hf21.out.keep hg)
    have Hg22 := Lib.hid (Hg21.out.keep hg)
    have Hh22 := Lib.hid (Hh21.out.keep hg)
    clear hg HW21 Ha21 Hb21 Hc21 Hf21 Hg21 Hh21
    go_wp2_with fail
    go_ret
    exact ⟨rfl, grownBy_trans HG1.out HW22.out.gr⟩

end Go.Proofs.Ytpgefmhjhiemkaa
