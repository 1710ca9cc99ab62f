/- NsetMinus, walked. -/
import Derived.Test.YtpgefmhjhiemkaaZ6
namespace Go.Proofs.Ytpgefmhjhiemkaa
open Go.RowKit
set_option maxRecDepth 100000 in
set_option maxHeartbeats 4000000 in
theorem minus_walk (A B : Option Addr) (n c m d : Nat) (l k : List Int) (x : Int) (w : World) (hA : IntsAt w A n c l) (hc : n ≤ c) (hB : IntsAt w B m d k) (hd : m ≤ d) :
    Calls Try.prog 8 #[.slice A n c, .slice B m d, .int .i64 x] w fun e w' => e = .returned (.bool true) ∧ w.grownBy w' none := by
  have HA := Lib.hid hA
  have HB := Lib.hid hB
  go_enter Try.func8, Try.ntmps8
  go_wp2_with fail
  refine (shown_any w).mono ?_
  rintro e w1 ⟨rfl, hg⟩
  have HG1 := Lib.hid hg
  clear hg
  go_wp2_with fail
  refine (few_any A n c l w1 (HA.out.keep HG1.out) hc).mono ?_
  rintro e w2 ⟨A1, n1, c1, rfl, hI, rfl⟩
  have HI := Lib.hid hI
  clear hI
  have hl3 : (l.take 300).length ≤ 300 := by rw [List.length_take]; omega
  have HTL := Lib.hid (few_old A n c l w HA.out hc)
  generalize l.take 300 = p at *
  clear hA hc HA
  have HW1 := Lib.hid (Wd.first w1)
  have hE := addsI_len_le p []
  rw [List.length_nil] at hE
  go_wp2_with fail
  refine (wd_new HW1.out (Ls.arg HW1.out HI.out) (by omega)).mono ?_
  rintro e w2 ⟨a, oa, rfl, hw, hx, hlta, hnea⟩
  have HW2 := Lib.hid (hw)
  clear hw hx HW1
  obtain ⟨E, he⟩ : ∃ E, E = addsI [] p := ⟨_, rfl⟩
  rw [← he] at HW2 hE
  have HEE := Lib.hid he
  clear he
  go_wp2_with fail
  refine (few_old B m d k w HB.out hd w2).mono ?_
  rintro e w3 ⟨B1, m1, d1, rfl, hI, rfl⟩
  have HJ := Lib.hid (Ls.arg HW2.out (hI.keep HG1.out))
  clear hI
  have hk3 : (k.take 300).length ≤ 300 := by rw [List.length_take]; omega
  generalize k.take 300 = q at *
  clear hB hd HB
  have hD := addsI_len_le q []
  rw [List.length_nil] at hD
  go_wp2_with fail
  refine (wd_new HW2.out HJ.out (by omega)).mono ?_
  rintro e w3 ⟨b, ob, rfl, hw, hx, hltb, hneb⟩
  have HW3 := Lib.hid (hw)
  clear hw hx HW2
  obtain ⟨D, hd⟩ : ∃ D, D = addsI [] q := ⟨_, rfl⟩
  rw [← hd] at HW3 hD
  clear hd HJ
  go_wp2_with fail
  refine (wd_minus HW3.out mem1 mem0).mono ?_
  rintro e w4 ⟨u, ou, rfl, hw, hx, hltu, hneu⟩
  have HW4 := Lib.hid (hw)
  clear hw hx HW3
  obtain ⟨M, hM⟩ : ∃ M, M = minusI E D := ⟨_, rfl⟩
  have hMl := minusI_len_le E D
  rw [← hM] at HW4 hMl
  have HMM := Lib.hid (show minusI M D = M by rw [hM]; exact minusI_twice E D)
  have HX1 := Lib.hid (show decide (x ∈ M) = (decide (x ∈ E) && !decide (x ∈ D)) by rw [hM]; by_cases h1 : x ∈ E <;> by_cases h2 : x ∈ D <;> simp [minusI_mem, h1, h2])
  clear hM
  go_wp2_with fail
  refine (wd_has x HW4.out mem0).mono ?_
  rintro e w5 ⟨rfl, hg⟩
  rw [HX1.out]
  obtain ⟨b1, hb1⟩ : ∃ b, b = decide (x ∈ E) := ⟨_, rfl⟩
  obtain ⟨b2, hb2⟩ : ∃ b, b = decide (x ∈ D) := ⟨_, rfl⟩
  rw [← hb1, ← hb2]
  have HB1 := Lib.hid hb1.symm
  have HB2 := Lib.hid hb2.symm
  clear hb1 hb2
  have HW5 := Lib.hid (HW4.out.keep hg)
  clear hg HW4
  go_wp2_with fail
  refine (wd_has x HW5.out mem2).mono ?_
  rintro e w6 ⟨rfl, hg⟩
  rw [HB1.out]
  clear HB1 HX1
  have HW6 := Lib.hid (HW5.out.keep hg)
  clear hg HW5
  cases b1
  · skip
    go_wp2_with fail
    refine (wd_minus HW6.out mem0 mem1).mono ?_
    rintro e w7 ⟨v, ov, rfl, hw, hx, hltv, hnev⟩
    rw [HMM.out] at hw
    have HW7 := Lib.hid (hw)
    clear hw hx HW6
    go_wp2_with fail
    refine (wd_list HW7.out mem0).mono ?_
    rintro e w8 ⟨Af, nf, cf, rfl, hL, hg⟩
    have Hf8 := Lib.hid hL
    have HW8 := Lib.hid (HW7.out.keep hg)
    clear hL hg HW7
    go_wp2_with fail
    refine (wd_list HW8.out mem1).mono ?_
    rintro e w9 ⟨Ag, ng, cg, rfl, hL, hg⟩
    have Hg9 := Lib.hid hL
    have HW9 := Lib.hid (HW8.out.keep hg)
    have Hf9 := Lib.hid (Hf8.out.keep hg)
    clear hL hg HW8 Hf8
    go_wp2_with fail
    refine (Ints_any _ _ _ _ _ _ M M _ Hf9.out.1 Hg9.out.1 (by omega)).mono ?_
    rintro e w10 ⟨rfl, hg⟩
    rw [decide_eq_true rfl]
    have HW10 := Lib.hid (HW9.out.keep hg)
    have Hf10 := Lib.hid (Hf9.out.keep hg)
    have Hg10 := Lib.hid (Hg9.out.keep hg)
    clear hg HW9 Hf9 Hg9
    clear Hf10
    clear Hg10
    go_wp2_with fail
    refine (wd_minus HW10.out mem3 mem3).mono ?_
    rintro e w11 ⟨y, oy, rfl, hw, hx, hlty, hney⟩
    rw [minusI_self] at hw
    have HW11 := Lib.hid (hw)
    clear hw hx HW10
    go_wp2_with fail
    refine (wd_len HW11.out mem0).mono ?_
    rintro e w12 ⟨rfl, hg⟩
    have HW12 := Lib.hid (HW11.out.keep hg)
    clear hg HW11
    have HWq := Lib.hid (HW12.out.sub (M := [(a, E)]) (by simp))
    clear HW12
    have HW12q := HWq
    clear HWq
    go_wp2_with fail
    refine (wd_minus_nil HW12q.out mem0).mono ?_
    rintro e w13 ⟨z, oz, rfl, hw, hx, hltz, hnez⟩
    have HW13 := Lib.hid (hw)
    clear hw hx HW12q
    go_wp2_with fail
    refine (wd_list HW13.out mem0).mono ?_
    rintro e w14 ⟨Af, nf, cf, rfl, hL, hg⟩
    have Hf14 := Lib.hid hL
    have HW14 := Lib.hid (HW13.out.keep hg)
    clear hL hg HW13
    go_wp2_with fail
    refine (wd_list HW14.out mem1).mono ?_
    rintro e w15 ⟨Ag, ng, cg, rfl, hL, hg⟩
    have Hg15 := Lib.hid hL
    have HW15 := Lib.hid (HW14.out.keep hg)
    have Hf15 := Lib.hid (Hf14.out.keep hg)
    clear hL hg HW14 Hf14
    go_wp2_with fail
    refine (Ints_any _ _ _ _ _ _ E E _ Hf15.out.1 Hg15.out.1 (by omega)).mono ?_
    rintro e w16 ⟨rfl, hg⟩
    rw [decide_eq_true rfl]
    have HW16 := Lib.hid (HW15.out.keep hg)
    have Hf16 := Lib.hid (Hf15.out.keep hg)
    have Hg16 := Lib.hid (Hg15.out.keep hg)
    clear hg HW15 Hf15 Hg15
    clear Hf16
    clear Hg16
    go_wp2_with fail
    refine (wd_list HW16.out mem1).mono ?_
    rintro e w17 ⟨Af, nf, cf, rfl, hL, hg⟩
    have Hf17 := Lib.hid hL
    have HW17 := Lib.hid (HW16.out.keep hg)
    clear hL hg HW16
    go_wp2_with fail
    refine (HTL.out _).mono ?_
    rintro e w18 ⟨B9, m9, d9, rfl, hI, rfl⟩
    have HI9 := Lib.hid (Ls.arg HW17.out (hI.keep HG1.out))
    clear hI
    go_wp2_with fail
    refine (wd_new HW17.out HI9.out (by omega)).mono ?_
    rintro e w18 ⟨r, or, rfl, hw, hx, hltr, hner⟩
    rw [← HEE.out] at hw
    have HW18 := Lib.hid (hw)
    have Hf18 := Lib.hid (Hf17.out.ext hx)
    clear hw hx HW17 Hf17
    go_wp2_with fail
    refine (wd_list HW18.out mem0).mono ?_
    rintro e w19 ⟨Ag, ng, cg, rfl, hL, hg⟩
    have Hg19 := Lib.hid hL
    have HW19 := Lib.hid (HW18.out.keep hg)
    have Hf19 := Lib.hid (Hf18.out.keep hg)
    clear hL hg HW18 Hf18
    go_wp2_with fail
    refine (Ints_any _ _ _ _ _ _ E E _ Hf19.out.1 Hg19.out.1 (by omega)).mono ?_
    rintro e w20 ⟨rfl, hg⟩
    rw [decide_eq_true rfl]
    have HW20 := Lib.hid (HW19.out.keep hg)
    have Hf20 := Lib.hid (Hf19.out.keep hg)
    have Hg20 := Lib.hid (Hg19.out.keep hg)
    clear hg HW19 Hf19 Hg19
    go_wp2_with fail
    go_ret
    exact ⟨rfl, grownBy_trans HG1.out HW20.out.gr⟩
  · skip
    go_wp2_with fail
    refine (wd_has x HW6.out mem1).mono ?_
    rintro e w7 ⟨rfl, hg⟩
    rw [HB2.out]
    clear HB2
    have HW7 := Lib.hid (HW6.out.keep hg)
    clear hg HW6
    cases b2
    all_goals
      go_wp2_with fail
      refine (wd_minus HW7.out mem0 mem1).mono ?_
      rintro e w8 ⟨v, ov, rfl, hw, hx, hltv, hnev⟩
      rw [HMM.out] at hw
      have HW8 := Lib.hid (hw)
      clear hw hx HW7
      go_wp2_with fail
      refine (wd_list HW8.out mem0).mono ?_
      rintro e w9 ⟨Af, nf, cf, rfl, hL, hg⟩
      have Hf9 := Lib.hid hL
      have HW9 := Lib.hid (HW8.out.keep hg)
      clear hL hg HW8
      go_wp2_with fail
      refine (wd_list HW9.out mem1).mono ?_
      rintro e w10 ⟨Ag, ng, cg, rfl, hL, hg⟩
      have Hg10 := Lib.hid hL
      have HW10 := Lib.hid (HW9.out.keep hg)
      have Hf10 := Lib.hid (Hf9.out.keep hg)
      clear hL hg HW9 Hf9
      go_wp2_with fail
      refine (Ints_any _ _ _ _ _ _ M M _ Hf10.out.1 Hg10.out.1 (by omega)).mono ?_
      rintro e w11 ⟨rfl, hg⟩
      rw [decide_eq_true rfl]
      have HW11 := Lib.hid (HW10.out.keep hg)
      have Hf11 := Lib.hid (Hf10.out.keep hg)
      have Hg11 := Lib.hid (Hg10.out.keep hg)
      clear hg HW10 Hf10 Hg10
      clear Hf11
      clear Hg11
      go_wp2_with fail
      refine (wd_minus HW11.out mem3 mem3).mono ?_
      rintro e w12 ⟨y, oy, rfl, hw, hx, hlty, hney⟩
      rw [minusI_self] at hw
      have HW12 := Lib.hid (hw)
      clear hw hx HW11
      go_wp2_with fail
      refine (wd_len HW12.out mem0).mono ?_
      rintro e w13 ⟨rfl, hg⟩
      have HW13 := Lib.hid (HW12.out.keep hg)
      clear hg HW12
      have HWq := Lib.hid (HW13.out.sub (M := [(a, E)]) (by simp))
      clear HW13
      have HW13q := HWq
      clear HWq
      go_wp2_with fail
      refine (wd_minus_nil HW13q.out mem0).mono ?_
      rintro e w14 ⟨z, oz, rfl, hw, hx, hltz, hnez⟩
      have HW14 := Lib.hid (hw)
      clear hw hx HW13q
      go_wp2_with fail
      refine (wd_list HW14.out mem0).mono ?_
      rintro e w15 ⟨Af, nf, cf, rfl, hL, hg⟩
      have Hf15 := Lib.hid hL
      have HW15 := Lib.hid (HW14.out.keep hg)
      clear hL hg HW14
      go_wp2_with fail
      refine (wd_list HW15.out mem1).mono ?_
      rintro e w16 ⟨Ag, ng, cg, rfl, hL, hg⟩
      have Hg16 := Lib.hid hL
      have HW16 := Lib.hid (HW15.out.keep hg)
      have Hf16 := Lib.hid (Hf15.out.keep hg)
      clear hL hg HW15 Hf15
      go_wp2_with fail
      refine (Ints_any _ _ _ _ _ _ E E _ Hf16.out.1 Hg16.out.1 (by omega)).mono ?_
      rintro e w17 ⟨rfl, hg⟩
      rw [decide_eq_true rfl]
      have HW17 := Lib.hid (HW16.out.keep hg)
      have Hf17 := Lib.hid (Hf16.out.keep hg)
      have Hg17 := Lib.hid (Hg16.out.keep hg)
      clear hg HW16 Hf16 Hg16
      clear Hf17
      clear Hg17
      go_wp2_with fail
      refine (wd_list HW17.out mem1).mono ?_
      rintro e w18 ⟨Af, nf, cf, rfl, hL, hg⟩
      have Hf18 := Lib.hid hL
      have HW18 := Lib.hid (HW17.out.keep hg)
      clear hL hg HW17
      go_wp2_with fail
      refine (HTL.out _).mono ?_
      rintro e w19 ⟨B9, m9, d9, rfl, hI, rfl⟩
      have HI9 := Lib.hid (Ls.arg HW18.out (hI.keep HG1.out))
      clear hI
      go_wp2_with fail
      refine (wd_new HW18.out HI9.out (by omega)).mono ?_
      rintro e w19 ⟨r, or, rfl, hw, hx, hltr, hner⟩
      rw [← HEE.out] at hw
      have HW19 := Lib.hid (hw)
      have Hf19 := Lib.hid (Hf18.out.ext hx)
      clear hw hx HW18 Hf18
      go_wp2_with fail
      refine (wd_list HW19.out mem0).mono ?_
      rintro e w20 ⟨Ag, ng, cg, rfl, hL, hg⟩
      have Hg20 := Lib.hid hL
      have HW20 := Lib.hid (HW19.out.keep hg)
      have Hf20 := Lib.hid (Hf19.out.keep hg)
      clear hL hg HW19 Hf19
      go_wp2_with fail
      refine (Ints_any _ _ _ _ _ _ E E _ Hf20.out.1 Hg20.out.1 (by omega)).mono ?_
      rintro e w21 ⟨rfl, hg⟩
      rw [decide_eq_true rfl]
      have HW21 := Lib.hid (HW20.out.keep hg)
      have Hf21 := Lib.hid (Hf20.out.keep hg)
      have Hg21 := Lib.hid (Hg20.out.keep hg)
      clear hg HW20 Hf20 Hg20
      go_wp2_with fail
      go_ret
      exact ⟨rfl, grownBy_trans HG1.out HW21.out.gr⟩

end Go.Proofs.Ytpgefmhjhiemkaa
