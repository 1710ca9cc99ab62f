/- NsetBoth, walked. -/
import Derived.Test.YtpgefmhjhiemkaaZ6
namespace Go.Proofs.Ytpgefmhjhiemkaa
open Go.RowKit
theorem addsI_same {E D F : List Int} (h : addsI E D = F) (hE : SetOk E) : addsI F F = F := by
  have hF : SetOk F := h ▸ hE.adds
  refine hF.adds.ext hF fun x => ?_
  rw [addsI_mem]
  constructor
  · rintro (h | h)
    · exact h
    · exact h.1
  · exact .inl
set_option maxRecDepth 100000 in
set_option maxHeartbeats 4000000 in
theorem both_walk (A B : Option Addr) (n c m d : Nat) (l k : List Int) (w : World) (hA : IntsAt w A n c l) (hc : n ≤ c) (hB : IntsAt w B m d k) (hd : m ≤ d) :
    Calls Try.prog 6 #[.slice A n c, .slice B m d] w fun e w' => e = .returned (.bool true) ∧ w.grownBy w' none := by
  have HA := Lib.hid hA
  have HB := Lib.hid hB
  go_enter Try.func6, Try.ntmps6
  go_wp2_with fail
  refine (shown_any w).mono ?_
  rintro e w1 ⟨rfl, hg⟩
  have HG1 := Lib.hid hg
  clear hg
  go_wp2_with fail
  refine (few_any A n c l w1 (HA.out.keep HG1.out) hc).mono ?_
  rintro e w2 ⟨A1, n1, c1, rfl, hI, rfl⟩
  have HI := Lib.hid hI
  clear hI
  go_wp2_with fail
  refine (few_any B m d k w1 (HB.out.keep HG1.out) hd).mono ?_
  rintro e w2 ⟨B1, m1, d1, rfl, hI, rfl⟩
  have HJ := Lib.hid hI
  clear hI
  have hl3 : (l.take 300).length ≤ 300 := by rw [List.length_take]; omega
  have hk3 : (k.take 300).length ≤ 300 := by rw [List.length_take]; omega
  generalize l.take 300 = p at *
  generalize k.take 300 = q at *
  clear hA hc HA hB hd HB
  have HW1 := Lib.hid (Wd.first w1)
  have hE := addsI_len_le p []
  have hD := addsI_len_le q []
  rw [List.length_nil] at hE hD
  go_wp2_with fail
  refine (wd_new HW1.out (Ls.arg HW1.out HI.out) (by omega)).mono ?_
  rintro e w2 ⟨a, oa, rfl, hw, hx, hlta, hnea⟩
  have HW2 := Lib.hid (hw)
  clear hw hx HW1
  go_wp2_with fail
  refine (wd_new HW2.out (Ls.arg HW2.out HJ.out) (by omega)).mono ?_
  rintro e w3 ⟨b, ob, rfl, hw, hx, hltb, hneb⟩
  have HW3 := Lib.hid (hw)
  clear hw hx HW2
  obtain ⟨E, he⟩ : ∃ E, E = addsI [] p := ⟨_, rfl⟩
  obtain ⟨D, hd⟩ : ∃ D, D = addsI [] q := ⟨_, rfl⟩
  rw [← he] at HW3 hE
  rw [← hd] at HW3 hD
  have HEE := Lib.hid he
  have HDD := Lib.hid hd
  clear he hd
  have HOE := Lib.hid (HW3.out.sets a E mem1).ok
  have HOD := Lib.hid (HW3.out.sets b D mem0).ok
  have hab : b ≠ a := fun e => hneb _ mem0 e.symm
  obtain ⟨F, hf⟩ : ∃ F, F = addsI E D := ⟨_, rfl⟩
  have HF1 := Lib.hid hf.symm
  have HF2 := Lib.hid (show addsI D E = F by rw [hf]; exact (both_same HOE.out HOD.out).symm)
  obtain ⟨M, hM⟩ : ∃ M, M = minusI E D := ⟨_, rfl⟩
  have HF3 := Lib.hid (show addsI M D = F by rw [hM, hf]; exact minus_back HOE.out HOD.out)
  have HF4 := Lib.hid (show F.length = M.length + D.length by rw [hM, hf]; exact both_len HOE.out HOD.out)
  have HFM := Lib.hid hM.symm
  have hF : F.length ≤ 600 := by rw [hf]; have := addsI_len_le D E; omega
  have hMl : M.length ≤ 300 := by rw [hM]; have := minusI_len_le E D; omega
  clear hf hM
  go_wp2_with fail
  refine (wd_new HW3.out (Ls.arg HW3.out HJ.out) (by omega)).mono ?_
  rintro e w4 ⟨t, ot, rfl, hw, hx, hltt, hnet⟩
  rw [← HDD.out] at hw
  have HW4 := Lib.hid (hw)
  clear hw hx HW3
  have hta : t ≠ a := fun e => hnet _ mem1 e.symm
  have HWq := Lib.hid (HW4.out.sub (M := [(a, E), (t, D), (b, D)]) (by simp))
  clear HW4
  have HW4q := HWq
  clear HWq
  go_wp2_with fail
  refine (wd_union HW4q.out (by simp [hta, hab]) mem0).mono ?_
  rintro e w5 ⟨rfl, oa2, hw, hx⟩
  rw [HF1.out] at hw
  have HW5 := Lib.hid (hw)
  clear hw hx HW4q
  go_wp2_with fail
  refine (wd_new HW5.out (Ls.arg HW5.out HI.out) (by omega)).mono ?_
  rintro e w6 ⟨u, ou, rfl, hw, hx, hltu, hneu⟩
  rw [← HEE.out] at hw
  have HW6 := Lib.hid (hw)
  clear hw hx HW5
  have hub : u ≠ b := fun e => hneu _ mem2 e.symm
  have HWq := Lib.hid (HW6.out.sub (M := [(b, D), (u, E), (a, F)]) (by simp))
  clear HW6
  have HW6q := HWq
  clear HWq
  go_wp2_with fail
  refine (wd_union HW6q.out (by simp [hub, Ne.symm hab]) mem0).mono ?_
  rintro e w7 ⟨rfl, ob2, hw, hx⟩
  rw [HF2.out] at hw
  have HW7 := Lib.hid (hw)
  clear hw hx HW6q
  have HWq := Lib.hid (HW7.out.sub (M := [(b, F), (a, F)]) (by simp))
  clear HW7
  have HW7q := HWq
  clear HWq
  go_wp2_with fail
  refine (wd_new HW7q.out (Ls.arg HW7q.out HI.out) (by omega)).mono ?_
  rintro e w8 ⟨x, ox, rfl, hw, hx, hltx, hnex⟩
  rw [← HEE.out] at hw
  have HW8 := Lib.hid (hw)
  clear hw hx HW7q
  go_wp2_with fail
  refine (wd_new HW8.out (Ls.arg HW8.out HJ.out) (by omega)).mono ?_
  rintro e w9 ⟨y, oy, rfl, hw, hx, hlty, hney⟩
  rw [← HDD.out] at hw
  have HW9 := Lib.hid (hw)
  clear hw hx HW8
  go_wp2_with fail
  refine (wd_minus HW9.out mem1 mem0).mono ?_
  rintro e w10 ⟨z, oz, rfl, hw, hx, hltz, hnez⟩
  rw [HFM.out] at hw
  have HW10 := Lib.hid (hw)
  clear hw hx HW9
  have hza : z ≠ a := fun e => hnez _ mem3 e.symm
  have hzb : z ≠ b := fun e => hnez _ mem2 e.symm
  have HWq := Lib.hid (HW10.out.sub (M := [(z, M), (b, F), (a, F)]) (by simp))
  clear HW10
  have HW10q := HWq
  clear HWq
  go_wp2_with fail
  refine (wd_len HW10q.out mem0).mono ?_
  rintro e w11 ⟨rfl, hg⟩
  have HW11 := Lib.hid (HW10q.out.keep hg)
  clear hg HW10q
  go_wp2_with fail
  refine (wd_new HW11.out (Ls.arg HW11.out HJ.out) (by omega)).mono ?_
  rintro e w12 ⟨v, ov, rfl, hw, hx, hltv, hnev⟩
  rw [← HDD.out] at hw
  have HW12 := Lib.hid (hw)
  clear hw hx HW11
  have hvz : v ≠ z := fun e => hnev _ mem0 e.symm
  have HWq := Lib.hid (HW12.out.sub (M := [(z, M), (v, D), (b, F), (a, F)]) (by simp))
  clear HW12
  have HW12q := HWq
  clear HWq
  go_wp2_with fail
  refine (wd_union HW12q.out (by simp [hvz, Ne.symm hza, Ne.symm hzb]) mem0).mono ?_
  rintro e w13 ⟨rfl, oz2, hw, hx⟩
  rw [HF3.out] at hw
  have HW13 := Lib.hid (hw)
  clear hw hx HW12q
  have HWq := Lib.hid (HW13.out.sub (M := [(a, F), (b, F), (z, F)]) (by simp))
  clear HW13
  have HW13q := HWq
  clear HWq
  go_wp2_with fail
  refine (wd_union HW13q.out (by simp [hab, hza]) mem0).mono ?_
  rintro e w14 ⟨rfl, oa3, hw, hx⟩
  rw [addsI_same HF1.out HOE.out] at hw
  rw [news_none (fun x hx => hx)]
  have HW14 := Lib.hid (hw)
  clear hw hx HW13q
  go_wp2_with fail
  refine (wd_list HW14.out mem0).mono ?_
  rintro e w15 ⟨Af, nf, cf, rfl, hL, hg⟩
  have Hf15 := Lib.hid hL
  have HW15 := Lib.hid (HW14.out.keep hg)
  clear hL hg HW14
  go_wp2_with fail
  refine (wd_list HW15.out mem1).mono ?_
  rintro e w16 ⟨Ag, ng, cg, rfl, hL, hg⟩
  have Hg16 := Lib.hid hL
  have HW16 := Lib.hid (HW15.out.keep hg)
  have Hf16 := Lib.hid (Hf15.out.keep hg)
  clear hL hg HW15 Hf15
  go_wp2_with fail
  refine (Ints_any _ _ _ _ _ _ F F _ Hf16.out.1 Hg16.out.1 (by omega)).mono ?_
  rintro e w17 ⟨rfl, hg⟩
  rw [decide_eq_true rfl]
  have HW17 := Lib.hid (HW16.out.keep hg)
  have Hf17 := Lib.hid (Hf16.out.keep hg)
  have Hg17 := Lib.hid (Hg16.out.keep hg)
  clear hg HW16 Hf16 Hg16
  clear Hf17
  clear Hg17
  go_wp2_with fail
  refine (wd_list HW17.out mem2).mono ?_
  rintro e w18 ⟨Af, nf, cf, rfl, hL, hg⟩
  have Hf18 := Lib.hid hL
  have HW18 := Lib.hid (HW17.out.keep hg)
  clear hL hg HW17
  go_wp2_with fail
  refine (wd_list HW18.out mem0).mono ?_
  rintro e w19 ⟨Ag, ng, cg, rfl, hL, hg⟩
  have Hg19 := Lib.hid hL
  have HW19 := Lib.hid (HW18.out.keep hg)
  have Hf19 := Lib.hid (Hf18.out.keep hg)
  clear hL hg HW18 Hf18
  go_wp2_with fail
  refine (Ints_any _ _ _ _ _ _ F F _ Hf19.out.1 Hg19.out.1 (by omega)).mono ?_
  rintro e w20 ⟨rfl, hg⟩
  rw [decide_eq_true rfl]
  have HW20 := Lib.hid (HW19.out.keep hg)
  have Hf20 := Lib.hid (Hf19.out.keep hg)
  have Hg20 := Lib.hid (Hg19.out.keep hg)
  clear hg HW19 Hf19 Hg19
  clear Hf20
  clear Hg20
  go_wp2_with fail
  refine (wd_len HW20.out mem0).mono ?_
  rintro e w21 ⟨rfl, hg⟩
  have HW21 := Lib.hid (HW20.out.keep hg)
  clear hg HW20
  go_wp2_with fail
  refine (wd_new HW21.out (Ls.arg HW21.out HJ.out) (by omega)).mono ?_
  rintro e w22 ⟨r, or, rfl, hw, hx, hltr, hner⟩
  rw [← HDD.out] at hw
  have HW22 := Lib.hid (hw)
  clear hw hx HW21
  go_wp2_with fail
  refine (wd_len HW22.out mem0).mono ?_
  rintro e w23 ⟨rfl, hg⟩
  have HW23 := Lib.hid (HW22.out.keep hg)
  clear hg HW22
  have hsum : IntKind.i64.wrap ((M.length : Int) + (D.length : Int)) = (F.length : Int) := by rw [HF4.out, IntWalk.i64_in _ (by omega)]; omega
  go_wp2_with fail
  go_ret
  exact ⟨rfl, grownBy_trans HG1.out HW23.out.gr⟩

end Go.Proofs.Ytpgefmhjhiemkaa
