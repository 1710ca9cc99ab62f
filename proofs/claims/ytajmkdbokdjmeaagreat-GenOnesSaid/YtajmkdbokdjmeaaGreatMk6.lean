/- Merged: Gnb, Gnc, Gnd, Gne, Gnf, Gng, Gnh. -/
import Derived.Test.YtajmkdbokdjmeaaGreatMk5
/- gen: insn: widths. -/
namespace Go.Proofs.YtajmkdbokdjmeaaGreat
open Go.RowKit
section
variable {p : Prg} {Sa : Option Addr} {Sc gb fn pc : Nat} {w0 w : World} {L : List Kon} (a b c ww n : Int) (sign : ByteArray) (aa : Option Addr) (an ac : Nat) (args : List Int)
set_option maxRecDepth 100000 in
set_option maxHeartbeats 16000000 in
theorem ins_7y (h0 : Gen0 p Sa Sc w0) (hS : GenP p Sa Sc w0 gb L w) (hfn : fn < p.fns.length) (hl : L.length ≤ 40000000000) (h1 : ww = 1 ∨ ww = 8) :
    Calls Tryz.prog 20 #[.pointer (some ⟨gb, 0, none⟩), .int .i64 fn, .int .i64 pc, insV ⟨7, a, b, c, ww, n, sign, aa, an, ac, args⟩] w fun e w' => e = .returned (.tuple #[]) ∧
      GenP p Sa Sc w0 gb (L ++ (consI p.fns fn ⟨7, a, b, c, ww, n, sign, aa, an, ac, args⟩).map (atK fn pc)) w' ∧ FrK w w' := by
  have HD := Lib.hid (show decide (ww = 1 ∨ ww = 8) = true from decide_eq_true h1)
  have HS := Lib.hid hS
  have H0 := Lib.hid h0
  have HFN := Lib.hid hfn
  obtain ⟨ad, hSa, _⟩ := (hS.reads h0).first hfn
  subst hSa
  have HC := Lib.hid (show consI p.fns fn ⟨7, a, b, c, ww, n, sign, aa, an, ac, args⟩ = [twoK 2 (wz (fstK p.fns fn + a)) (wz (fstK p.fns fn + b)) 0] from (if_pos h1 : (if ww = 1 ∨ ww = 8 then [twoK 2 (wz (fstK p.fns fn + a)) (wz (fstK p.fns fn + b)) 0] else []) = _))
  clear hS h0 h1
  unfold insV insC
  go_enter Tryz.func20, Tryz.ntmps20
  go_wp2_with fail
  refine (creators_any _ _ _).mono ?_
  rintro e w1 ⟨b1, b2, b3, rfl, hcr, hg1⟩
  have HW := Lib.hid (InsW.new (i := ⟨7, a, b, c, ww, n, sign, aa, an, ac, args⟩) HS.out hcr hg1)
  clear hcr hg1 HS
  go_upto_region 2 with fail
  unfold crC at HW
  generalize w1.alloc _ = W2 at *
  generalize w.heap.size = ib at *
  generalize w1.heap.size = q at *
  obtain ⟨ad', hAD, c1⟩ := (HW.out.hM.st.reads H0.out).first hfn
  injection hAD with hAD
  subst hAD
  have c3 := HW.out.hM.st.cell1.2
  obtain ⟨i0, i1, i2, i3, i4, i5, i6, i7⟩ := boxI HW.out.hi
  obtain ⟨k0, k1, k2⟩ := boxK HW.out.hk
  obtain ⟨va, hva⟩ : ∃ z, IntKind.i64.wrap (fstK p.fns fn + a) = z := ⟨_, rfl⟩
  obtain ⟨vb, hvb⟩ : ∃ z, IntKind.i64.wrap (fstK p.fns fn + b) = z := ⟨_, rfl⟩
  have HVA := Lib.hid (show wz (fstK p.fns fn + a) = va from hva)
  have HVB := Lib.hid (show wz (fstK p.fns fn + b) = vb from hvb)
  generalize fstK p.fns fn = s at *
  go_wp2_with go_region
  refine (hold_any _ _).mono ?_
  rintro e w' ⟨rfl, rfl⟩
  rw [HD.out]
  go_wp2_with fail
  refine (flow_any (HW.out.hM.cr.gr (grownBy_refl W2 none).gr_drew) _ _ _ _).mono ?_
  rintro e w3 ⟨rfl, hg3⟩
  have HG3 := Lib.hid (grownBy_trans (grownBy_refl W2 none).gr_drew hg3)
  clear hg3
  go_wp2_with fail
  refine (collect_any (D := [twoK 2 va vb 0].map (atK fn pc)) (HW.out.hM.st.keep (gr_alloc HG3.out _)) (some ⟨_, 0, none⟩) 1 1 rfl (one_kon (heap_alloc_new _ _)) (fun h => by cases h) (KArgs.none_ rfl) (by simp; omega)).mono ?_
  rintro e w5 ⟨rfl, hS5, hF5⟩
  have HE5 := Lib.hid (show GenP p (some ad) Sc w0 gb (L ++ (consI p.fns fn ⟨7, a, b, c, ww, n, sign, aa, an, ac, args⟩).map (atK fn pc)) w5 by rw [HC.out, HVA.out, HVB.out]; exact hS5)
  have HF5 := Lib.hid (show FrK w w5 from (FrK.gr (grownBy_trans HW.out.hg (gr_alloc HG3.out _))).trans hF5)
  go_wp2_with fail
  go_end0
  exact ⟨rfl, HE5.out, HF5.out⟩
set_option maxRecDepth 100000 in
set_option maxHeartbeats 16000000 in
theorem ins_7n (h0 : Gen0 p Sa Sc w0) (hS : GenP p Sa Sc w0 gb L w) (hfn : fn < p.fns.length) (_hl : L.length ≤ 40000000000) (h1 : ¬ (ww = 1 ∨ ww = 8)) :
    Calls Tryz.prog 20 #[.pointer (some ⟨gb, 0, none⟩), .int .i64 fn, .int .i64 pc, insV ⟨7, a, b, c, ww, n, sign, aa, an, ac, args⟩] w fun e w' => e = .returned (.tuple #[]) ∧
      GenP p Sa Sc w0 gb (L ++ (consI p.fns fn ⟨7, a, b, c, ww, n, sign, aa, an, ac, args⟩).map (atK fn pc)) w' ∧ FrK w w' := by
  have HD := Lib.hid (show decide (ww = 1 ∨ ww = 8) = false from decide_eq_false h1)
  have HS := Lib.hid hS
  have H0 := Lib.hid h0
  have HFN := Lib.hid hfn
  obtain ⟨ad, hSa, _⟩ := (hS.reads h0).first hfn
  subst hSa
  have HC := Lib.hid (show consI p.fns fn ⟨7, a, b, c, ww, n, sign, aa, an, ac, args⟩ = [] from (if_neg h1 : (if ww = 1 ∨ ww = 8 then [twoK 2 (wz (fstK p.fns fn + a)) (wz (fstK p.fns fn + b)) 0] else []) = _))
  clear hS h0 h1
  unfold insV insC
  go_enter Tryz.func20, Tryz.ntmps20
  go_wp2_with fail
  refine (creators_any _ _ _).mono ?_
  rintro e w1 ⟨b1, b2, b3, rfl, hcr, hg1⟩
  have HW := Lib.hid (InsW.new (i := ⟨7, a, b, c, ww, n, sign, aa, an, ac, args⟩) HS.out hcr hg1)
  clear hcr hg1 HS
  go_upto_region 2 with fail
  unfold crC at HW
  generalize w1.alloc _ = W2 at *
  generalize w.heap.size = ib at *
  generalize w1.heap.size = q at *
  obtain ⟨ad', hAD, c1⟩ := (HW.out.hM.st.reads H0.out).first hfn
  injection hAD with hAD
  subst hAD
  have c3 := HW.out.hM.st.cell1.2
  obtain ⟨i0, i1, i2, i3, i4, i5, i6, i7⟩ := boxI HW.out.hi
  obtain ⟨k0, k1, k2⟩ := boxK HW.out.hk
  obtain ⟨va, hva⟩ : ∃ z, IntKind.i64.wrap (fstK p.fns fn + a) = z := ⟨_, rfl⟩
  obtain ⟨vb, hvb⟩ : ∃ z, IntKind.i64.wrap (fstK p.fns fn + b) = z := ⟨_, rfl⟩
  have HVA := Lib.hid (show wz (fstK p.fns fn + a) = va from hva)
  have HVB := Lib.hid (show wz (fstK p.fns fn + b) = vb from hvb)
  generalize fstK p.fns fn = s at *
  go_wp2_with go_region
  refine (hold_any _ _).mono ?_
  rintro e w' ⟨rfl, rfl⟩
  rw [HD.out]
  go_wp2_with fail
  go_end0
  rw [HC.out, List.map_nil, List.append_nil]
  exact ⟨rfl, HW.out.hM.st.keep (by repeat (first | with_reducible exact grownBy_refl _ _ | with_reducible assumption | with_reducible refine World.grownBy.gr_drew ?_ | with_reducible refine World.grownBy.gr_set ?_ (by simp) _ | with_reducible refine gr_alloc ?_ _)), FrK.gr (grownBy_trans HW.out.hg (by repeat (first | with_reducible exact grownBy_refl _ _ | with_reducible assumption | with_reducible refine World.grownBy.gr_drew ?_ | with_reducible refine World.grownBy.gr_set ?_ (by simp) _ | with_reducible refine gr_alloc ?_ _)))⟩
set_option maxRecDepth 100000 in
set_option maxHeartbeats 16000000 in
theorem ins_8y (h0 : Gen0 p Sa Sc w0) (hS : GenP p Sa Sc w0 gb L w) (hfn : fn < p.fns.length) (hl : L.length ≤ 40000000000) (h1 : ww = 1 ∨ ww = 8) :
    Calls Tryz.prog 20 #[.pointer (some ⟨gb, 0, none⟩), .int .i64 fn, .int .i64 pc, insV ⟨8, a, b, c, ww, n, sign, aa, an, ac, args⟩] w fun e w' => e = .returned (.tuple #[]) ∧
      GenP p Sa Sc w0 gb (L ++ (consI p.fns fn ⟨8, a, b, c, ww, n, sign, aa, an, ac, args⟩).map (atK fn pc)) w' ∧ FrK w w' := by
  have HD := Lib.hid (show decide (ww = 1 ∨ ww = 8) = true from decide_eq_true h1)
  have HS := Lib.hid hS
  have H0 := Lib.hid h0
  have HFN := Lib.hid hfn
  obtain ⟨ad, hSa, _⟩ := (hS.reads h0).first hfn
  subst hSa
  have HC := Lib.hid (show consI p.fns fn ⟨8, a, b, c, ww, n, sign, aa, an, ac, args⟩ = [twoK 5 (wz (fstK p.fns fn + a)) (wz (fstK p.fns fn + b)) ww] from (if_pos h1 : (if ww = 1 ∨ ww = 8 then [twoK 5 (wz (fstK p.fns fn + a)) (wz (fstK p.fns fn + b)) ww] else []) = _))
  clear hS h0 h1
  unfold insV insC
  go_enter Tryz.func20, Tryz.ntmps20
  go_wp2_with fail
  refine (creators_any _ _ _).mono ?_
  rintro e w1 ⟨b1, b2, b3, rfl, hcr, hg1⟩
  have HW := Lib.hid (InsW.new (i := ⟨8, a, b, c, ww, n, sign, aa, an, ac, args⟩) HS.out hcr hg1)
  clear hcr hg1 HS
  go_upto_region 2 with fail
  unfold crC at HW
  generalize w1.alloc _ = W2 at *
  generalize w.heap.size = ib at *
  generalize w1.heap.size = q at *
  obtain ⟨ad', hAD, c1⟩ := (HW.out.hM.st.reads H0.out).first hfn
  injection hAD with hAD
  subst hAD
  have c3 := HW.out.hM.st.cell1.2
  obtain ⟨i0, i1, i2, i3, i4, i5, i6, i7⟩ := boxI HW.out.hi
  obtain ⟨k0, k1, k2⟩ := boxK HW.out.hk
  obtain ⟨va, hva⟩ : ∃ z, IntKind.i64.wrap (fstK p.fns fn + a) = z := ⟨_, rfl⟩
  obtain ⟨vb, hvb⟩ : ∃ z, IntKind.i64.wrap (fstK p.fns fn + b) = z := ⟨_, rfl⟩
  have HVA := Lib.hid (show wz (fstK p.fns fn + a) = va from hva)
  have HVB := Lib.hid (show wz (fstK p.fns fn + b) = vb from hvb)
  generalize fstK p.fns fn = s at *
  go_wp2_with go_region
  refine (hold_any _ _).mono ?_
  rintro e w' ⟨rfl, rfl⟩
  rw [HD.out]
  go_wp2_with fail
  refine (flow_any (HW.out.hM.cr.gr (grownBy_refl W2 none).gr_drew) _ _ _ _).mono ?_
  rintro e w3 ⟨rfl, hg3⟩
  have HG3 := Lib.hid (grownBy_trans (grownBy_refl W2 none).gr_drew hg3)
  clear hg3
  go_wp2_with fail
  refine (collect_any (D := [twoK 5 va vb ww].map (atK fn pc)) (HW.out.hM.st.keep (gr_alloc HG3.out _)) (some ⟨_, 0, none⟩) 1 1 rfl (one_kon (heap_alloc_new _ _)) (fun h => by cases h) (KArgs.none_ rfl) (by simp; omega)).mono ?_
  rintro e w5 ⟨rfl, hS5, hF5⟩
  have HE5 := Lib.hid (show GenP p (some ad) Sc w0 gb (L ++ (consI p.fns fn ⟨8, a, b, c, ww, n, sign, aa, an, ac, args⟩).map (atK fn pc)) w5 by rw [HC.out, HVA.out, HVB.out]; exact hS5)
  have HF5 := Lib.hid (show FrK w w5 from (FrK.gr (grownBy_trans HW.out.hg (gr_alloc HG3.out _))).trans hF5)
  go_wp2_with fail
  go_end0
  exact ⟨rfl, HE5.out, HF5.out⟩
set_option maxRecDepth 100000 in
set_option maxHeartbeats 16000000 in
theorem ins_8n (h0 : Gen0 p Sa Sc w0) (hS : GenP p Sa Sc w0 gb L w) (hfn : fn < p.fns.length) (_hl : L.length ≤ 40000000000) (h1 : ¬ (ww = 1 ∨ ww = 8)) :
    Calls Tryz.prog 20 #[.pointer (some ⟨gb, 0, none⟩), .int .i64 fn, .int .i64 pc, insV ⟨8, a, b, c, ww, n, sign, aa, an, ac, args⟩] w fun e w' => e = .returned (.tuple #[]) ∧
      GenP p Sa Sc w0 gb (L ++ (consI p.fns fn ⟨8, a, b, c, ww, n, sign, aa, an, ac, args⟩).map (atK fn pc)) w' ∧ FrK w w' := by
  have HD := Lib.hid (show decide (ww = 1 ∨ ww = 8) = false from decide_eq_false h1)
  have HS := Lib.hid hS
  have H0 := Lib.hid h0
  have HFN := Lib.hid hfn
  obtain ⟨ad, hSa, _⟩ := (hS.reads h0).first hfn
  subst hSa
  have HC := Lib.hid (show consI p.fns fn ⟨8, a, b, c, ww, n, sign, aa, an, ac, args⟩ = [] from (if_neg h1 : (if ww = 1 ∨ ww = 8 then [twoK 5 (wz (fstK p.fns fn + a)) (wz (fstK p.fns fn + b)) ww] else []) = _))
  clear hS h0 h1
  unfold insV insC
  go_enter Tryz.func20, Tryz.ntmps20
  go_wp2_with fail
  refine (creators_any _ _ _).mono ?_
  rintro e w1 ⟨b1, b2, b3, rfl, hcr, hg1⟩
  have HW := Lib.hid (InsW.new (i := ⟨8, a, b, c, ww, n, sign, aa, an, ac, args⟩) HS.out hcr hg1)
  clear hcr hg1 HS
  go_upto_region 2 with fail
  unfold crC at HW
  generalize w1.alloc _ = W2 at *
  generalize w.heap.size = ib at *
  generalize w1.heap.size = q at *
  obtain ⟨ad', hAD, c1⟩ := (HW.out.hM.st.reads H0.out).first hfn
  injection hAD with hAD
  subst hAD
  have c3 := HW.out.hM.st.cell1.2
  obtain ⟨i0, i1, i2, i3, i4, i5, i6, i7⟩ := boxI HW.out.hi
  obtain ⟨k0, k1, k2⟩ := boxK HW.out.hk
  obtain ⟨va, hva⟩ : ∃ z, IntKind.i64.wrap (fstK p.fns fn + a) = z := ⟨_, rfl⟩
  obtain ⟨vb, hvb⟩ : ∃ z, IntKind.i64.wrap (fstK p.fns fn + b) = z := ⟨_, rfl⟩
  have HVA := Lib.hid (show wz (fstK p.fns fn + a) = va from hva)
  have HVB := Lib.hid (show wz (fstK p.fns fn + b) = vb from hvb)
  generalize fstK p.fns fn = s at *
  go_wp2_with go_region
  refine (hold_any _ _).mono ?_
  rintro e w' ⟨rfl, rfl⟩
  rw [HD.out]
  go_wp2_with fail
  go_end0
  rw [HC.out, List.map_nil, List.append_nil]
  exact ⟨rfl, HW.out.hM.st.keep (by repeat (first | with_reducible exact grownBy_refl _ _ | with_reducible assumption | with_reducible refine World.grownBy.gr_drew ?_ | with_reducible refine World.grownBy.gr_set ?_ (by simp) _ | with_reducible refine gr_alloc ?_ _)), FrK.gr (grownBy_trans HW.out.hg (by repeat (first | with_reducible exact grownBy_refl _ _ | with_reducible assumption | with_reducible refine World.grownBy.gr_drew ?_ | with_reducible refine World.grownBy.gr_set ?_ (by simp) _ | with_reducible refine gr_alloc ?_ _)))⟩
set_option maxRecDepth 100000 in
set_option maxHeartbeats 16000000 in
theorem ins_9y (h0 : Gen0 p Sa Sc w0) (hS : GenP p Sa Sc w0 gb L w) (hfn : fn < p.fns.length) (hl : L.length ≤ 40000000000) (h1 : ww = 1 ∨ ww = 8) :
    Calls Tryz.prog 20 #[.pointer (some ⟨gb, 0, none⟩), .int .i64 fn, .int .i64 pc, insV ⟨9, a, b, c, ww, n, sign, aa, an, ac, args⟩] w fun e w' => e = .returned (.tuple #[]) ∧
      GenP p Sa Sc w0 gb (L ++ (consI p.fns fn ⟨9, a, b, c, ww, n, sign, aa, an, ac, args⟩).map (atK fn pc)) w' ∧ FrK w w' := by
  have HD := Lib.hid (show decide (ww = 1 ∨ ww = 8) = true from decide_eq_true h1)
  have HS := Lib.hid hS
  have H0 := Lib.hid h0
  have HFN := Lib.hid hfn
  obtain ⟨ad, hSa, _⟩ := (hS.reads h0).first hfn
  subst hSa
  have HC := Lib.hid (show consI p.fns fn ⟨9, a, b, c, ww, n, sign, aa, an, ac, args⟩ = [twoK 6 (wz (fstK p.fns fn + a)) (wz (fstK p.fns fn + b)) ww] from (if_pos h1 : (if ww = 1 ∨ ww = 8 then [twoK 6 (wz (fstK p.fns fn + a)) (wz (fstK p.fns fn + b)) ww] else []) = _))
  clear hS h0 h1
  unfold insV insC
  go_enter Tryz.func20, Tryz.ntmps20
  go_wp2_with fail
  refine (creators_any _ _ _).mono ?_
  rintro e w1 ⟨b1, b2, b3, rfl, hcr, hg1⟩
  have HW := Lib.hid (InsW.new (i := ⟨9, a, b, c, ww, n, sign, aa, an, ac, args⟩) HS.out hcr hg1)
  clear hcr hg1 HS
  go_upto_region 2 with fail
  unfold crC at HW
  generalize w1.alloc _ = W2 at *
  generalize w.heap.size = ib at *
  generalize w1.heap.size = q at *
  obtain ⟨ad', hAD, c1⟩ := (HW.out.hM.st.reads H0.out).first hfn
  injection hAD with hAD
  subst hAD
  have c3 := HW.out.hM.st.cell1.2
  obtain ⟨i0, i1, i2, i3, i4, i5, i6, i7⟩ := boxI HW.out.hi
  obtain ⟨k0, k1, k2⟩ := boxK HW.out.hk
  obtain ⟨va, hva⟩ : ∃ z, IntKind.i64.wrap (fstK p.fns fn + a) = z := ⟨_, rfl⟩
  obtain ⟨vb, hvb⟩ : ∃ z, IntKind.i64.wrap (fstK p.fns fn + b) = z := ⟨_, rfl⟩
  have HVA := Lib.hid (show wz (fstK p.fns fn + a) = va from hva)
  have HVB := Lib.hid (show wz (fstK p.fns fn + b) = vb from hvb)
  generalize fstK p.fns fn = s at *
  go_wp2_with go_region
  refine (hold_any _ _).mono ?_
  rintro e w' ⟨rfl, rfl⟩
  rw [HD.out]
  go_wp2_with fail
  refine (flow_any (HW.out.hM.cr.gr (grownBy_refl W2 none).gr_drew) _ _ _ _).mono ?_
  rintro e w3 ⟨rfl, hg3⟩
  have HG3 := Lib.hid (grownBy_trans (grownBy_refl W2 none).gr_drew hg3)
  clear hg3
  go_wp2_with fail
  refine (collect_any (D := [twoK 6 va vb ww].map (atK fn pc)) (HW.out.hM.st.keep (gr_alloc HG3.out _)) (some ⟨_, 0, none⟩) 1 1 rfl (one_kon (heap_alloc_new _ _)) (fun h => by cases h) (KArgs.none_ rfl) (by simp; omega)).mono ?_
  rintro e w5 ⟨rfl, hS5, hF5⟩
  have HE5 := Lib.hid (show GenP p (some ad) Sc w0 gb (L ++ (consI p.fns fn ⟨9, a, b, c, ww, n, sign, aa, an, ac, args⟩).map (atK fn pc)) w5 by rw [HC.out, HVA.out, HVB.out]; exact hS5)
  have HF5 := Lib.hid (show FrK w w5 from (FrK.gr (grownBy_trans HW.out.hg (gr_alloc HG3.out _))).trans hF5)
  go_wp2_with fail
  go_end0
  exact ⟨rfl, HE5.out, HF5.out⟩
set_option maxRecDepth 100000 in
set_option maxHeartbeats 16000000 in
theorem ins_9n (h0 : Gen0 p Sa Sc w0) (hS : GenP p Sa Sc w0 gb L w) (hfn : fn < p.fns.length) (_hl : L.length ≤ 40000000000) (h1 : ¬ (ww = 1 ∨ ww = 8)) :
    Calls Tryz.prog 20 #[.pointer (some ⟨gb, 0, none⟩), .int .i64 fn, .int .i64 pc, insV ⟨9, a, b, c, ww, n, sign, aa, an, ac, args⟩] w fun e w' => e = .returned (.tuple #[]) ∧
      GenP p Sa Sc w0 gb (L ++ (consI p.fns fn ⟨9, a, b, c, ww, n, sign, aa, an, ac, args⟩).map (atK fn pc)) w' ∧ FrK w w' := by
  have HD := Lib.hid (show decide (ww = 1 ∨ ww = 8) = false from decide_eq_false h1)
  have HS := Lib.hid hS
  have H0 := Lib.hid h0
  have HFN := Lib.hid hfn
  obtain ⟨ad, hSa, _⟩ := (hS.reads h0).first hfn
  subst hSa
  have HC := Lib.hid (show consI p.fns fn ⟨9, a, b, c, ww, n, sign, aa, an, ac, args⟩ = [] from (if_neg h1 : (if ww = 1 ∨ ww = 8 then [twoK 6 (wz (fstK p.fns fn + a)) (wz (fstK p.fns fn + b)) ww] else []) = _))
  clear hS h0 h1
  unfold insV insC
  go_enter Tryz.func20, Tryz.ntmps20
  go_wp2_with fail
  refine (creators_any _ _ _).mono ?_
  rintro e w1 ⟨b1, b2, b3, rfl, hcr, hg1⟩
  have HW := Lib.hid (InsW.new (i := ⟨9, a, b, c, ww, n, sign, aa, an, ac, args⟩) HS.out hcr hg1)
  clear hcr hg1 HS
  go_upto_region 2 with fail
  unfold crC at HW
  generalize w1.alloc _ = W2 at *
  generalize w.heap.size = ib at *
  generalize w1.heap.size = q at *
  obtain ⟨ad', hAD, c1⟩ := (HW.out.hM.st.reads H0.out).first hfn
  injection hAD with hAD
  subst hAD
  have c3 := HW.out.hM.st.cell1.2
  obtain ⟨i0, i1, i2, i3, i4, i5, i6, i7⟩ := boxI HW.out.hi
  obtain ⟨k0, k1, k2⟩ := boxK HW.out.hk
  obtain ⟨va, hva⟩ : ∃ z, IntKind.i64.wrap (fstK p.fns fn + a) = z := ⟨_, rfl⟩
  obtain ⟨vb, hvb⟩ : ∃ z, IntKind.i64.wrap (fstK p.fns fn + b) = z := ⟨_, rfl⟩
  have HVA := Lib.hid (show wz (fstK p.fns fn + a) = va from hva)
  have HVB := Lib.hid (show wz (fstK p.fns fn + b) = vb from hvb)
  generalize fstK p.fns fn = s at *
  go_wp2_with go_region
  refine (hold_any _ _).mono ?_
  rintro e w' ⟨rfl, rfl⟩
  rw [HD.out]
  go_wp2_with fail
  go_end0
  rw [HC.out, List.map_nil, List.append_nil]
  exact ⟨rfl, HW.out.hM.st.keep (by repeat (first | with_reducible exact grownBy_refl _ _ | with_reducible assumption | with_reducible refine World.grownBy.gr_drew ?_ | with_reducible refine World.grownBy.gr_set ?_ (by simp) _ | with_reducible refine gr_alloc ?_ _)), FrK.gr (grownBy_trans HW.out.hg (by repeat (first | with_reducible exact grownBy_refl _ _ | with_reducible assumption | with_reducible refine World.grownBy.gr_drew ?_ | with_reducible refine World.grownBy.gr_set ?_ (by simp) _ | with_reducible refine gr_alloc ?_ _)))⟩
end

end Go.Proofs.YtajmkdbokdjmeaaGreat
/- gen: insn: sums of two. -/
namespace Go.Proofs.YtajmkdbokdjmeaaGreat
open Go.RowKit
section
variable {p : Prg} {Sa : Option Addr} {Sc gb fn pc : Nat} {w0 w : World} {L : List Kon} (a b c ww n : Int) (sign : ByteArray) (aa : Option Addr) (an ac : Nat) (args : List Int)
set_option maxRecDepth 100000 in
set_option maxHeartbeats 16000000 in
theorem ins_5 (h0 : Gen0 p Sa Sc w0) (hS : GenP p Sa Sc w0 gb L w) (hfn : fn < p.fns.length) (hl : L.length ≤ 40000000000) :
    Calls Tryz.prog 20 #[.pointer (some ⟨gb, 0, none⟩), .int .i64 fn, .int .i64 pc, insV ⟨5, a, b, c, ww, n, sign, aa, an, ac, args⟩] w fun e w' => e = .returned (.tuple #[]) ∧
      GenP p Sa Sc w0 gb (L ++ (consI p.fns fn ⟨5, a, b, c, ww, n, sign, aa, an, ac, args⟩).map (atK fn pc)) w' ∧ FrK w w' := by
  have HS := Lib.hid hS
  have H0 := Lib.hid h0
  have HFN := Lib.hid hfn
  obtain ⟨ad, hSa, _⟩ := (hS.reads h0).first hfn
  subst hSa
  have HC := Lib.hid (show consI p.fns fn ⟨5, a, b, c, ww, n, sign, aa, an, ac, args⟩ = binK (wz (fstK p.fns fn + a)) (wz (fstK p.fns fn + b)) (wz (fstK p.fns fn + c)) sign from rfl)
  clear hS h0 
  unfold insV insC
  go_enter Tryz.func20, Tryz.ntmps20
  go_wp2_with fail
  refine (creators_any _ _ _).mono ?_
  rintro e w1 ⟨b1, b2, b3, rfl, hcr, hg1⟩
  have HW := Lib.hid (InsW.new (i := ⟨5, a, b, c, ww, n, sign, aa, an, ac, args⟩) HS.out hcr hg1)
  clear hcr hg1 HS
  go_upto_region 2 with fail
  unfold crC at HW
  generalize w1.alloc _ = W2 at *
  generalize w.heap.size = ib at *
  generalize w1.heap.size = q at *
  obtain ⟨ad', hAD, c1⟩ := (HW.out.hM.st.reads H0.out).first hfn
  injection hAD with hAD
  subst hAD
  have c3 := HW.out.hM.st.cell1.2
  obtain ⟨i0, i1, i2, i3, i4, i5, i6, i7⟩ := boxI HW.out.hi
  obtain ⟨k0, k1, k2⟩ := boxK HW.out.hk
  obtain ⟨va, hva⟩ : ∃ z, IntKind.i64.wrap (fstK p.fns fn + a) = z := ⟨_, rfl⟩
  obtain ⟨vb, hvb⟩ : ∃ z, IntKind.i64.wrap (fstK p.fns fn + b) = z := ⟨_, rfl⟩
  have HVA := Lib.hid (show wz (fstK p.fns fn + a) = va from hva)
  have HVB := Lib.hid (show wz (fstK p.fns fn + b) = vb from hvb)
  obtain ⟨vc, hvc⟩ : ∃ z, IntKind.i64.wrap (fstK p.fns fn + c) = z := ⟨_, rfl⟩
  have HVC := Lib.hid (show wz (fstK p.fns fn + c) = vc from hvc)
  have HKP := Lib.hid (fun (W : World) (L' : List Kon) (hS : GenP p (some ad) Sc w0 gb L' W) (k : FrK W2 W) => (show (fun W => W.cell? ⟨gb, 1, none⟩ = some (.slice (some ad) p.fns.length Sc) ∧ W.cell? (ad.add fn) = some (.int .i64 (fstK p.fns fn)) ∧ (W.cell? ⟨ib, 3, none⟩ = some (.int .i64 c) ∧ W.cell? ⟨ib, 6, none⟩ = some (.string sign)) ∧ W.cell? ⟨q, 0, none⟩ = some (.func (.func 57) #[] #[.pointer (some ⟨b3, 0, none⟩)]) ∧ W.cell? ⟨q, 1, none⟩ = some (.func (.func 56) #[] #[.pointer (some ⟨b1, 0, none⟩), .pointer (some ⟨b2, 0, none⟩)]) ∧ W.cell? ⟨q, 2, none⟩ = some (.func (.func 58) #[] #[.pointer (some ⟨b3, 0, none⟩)])) W from
    ⟨hS.cell1.2, (by obtain ⟨ad', hAD, c1⟩ := (GenSt.reads hS H0.out).first hfn; injection hAD with hAD; subst hAD; exact c1), ⟨(boxI (HW.out.hi.fr k (by decide) (by decide))).2.2.2.1, (boxI (HW.out.hi.fr k (by decide) (by decide))).2.2.2.2.2.2.1⟩, boxK (HW.out.hk.fr k (by decide) (by decide))⟩))
  generalize fstK p.fns fn = s at *
  go_upto_region 15 with go_region
  go_region_held3 (fun W => W.cell? ⟨gb, 1, none⟩ = some (.slice (some ad) p.fns.length Sc) ∧ W.cell? (ad.add fn) = some (.int .i64 s) ∧ (W.cell? ⟨ib, 3, none⟩ = some (.int .i64 c) ∧ W.cell? ⟨ib, 6, none⟩ = some (.string sign)) ∧ W.cell? ⟨q, 0, none⟩ = some (.func (.func 57) #[] #[.pointer (some ⟨b3, 0, none⟩)]) ∧ W.cell? ⟨q, 1, none⟩ = some (.func (.func 56) #[] #[.pointer (some ⟨b1, 0, none⟩), .pointer (some ⟨b2, 0, none⟩)]) ∧ W.cell? ⟨q, 2, none⟩ = some (.func (.func 58) #[] #[.pointer (some ⟨b3, 0, none⟩)])) (first | assumption | (refine HKP.out _ _ (HW.out.hM.st.keep ?_) (FrK.gr ?_) <;> (repeat (first | with_reducible exact grownBy_refl _ _ | with_reducible assumption | with_reducible refine World.grownBy.gr_drew ?_ | with_reducible refine gr_alloc ?_ _ | with_reducible refine grownBy_trans ?_ (by assumption))); done) | (refine HKP.out _ _ (by assumption) (FrK.trans (FrK.gr ?_) (by assumption)); (repeat (first | with_reducible exact grownBy_refl _ _ | with_reducible assumption | with_reducible refine World.grownBy.gr_drew ?_ | with_reducible refine gr_alloc ?_ _ | with_reducible refine grownBy_trans ?_ (by assumption))); done)) (first
    | (go_at_call 30; refine (bin_any (HW.out.hM.keep ?_) va vb vc sign (by omega)).mono ?_; (focus repeat (first | with_reducible exact grownBy_refl _ _ | with_reducible assumption | with_reducible refine World.grownBy.gr_drew ?_ | with_reducible refine gr_alloc ?_ _ | with_reducible refine grownBy_trans ?_ (by assumption))); rintro e w5 ⟨rfl, hS5, hF5⟩))
  all_goals
    have HE5 := Lib.hid (show GenP p (some ad) Sc w0 gb (L ++ (consI p.fns fn ⟨5, a, b, c, ww, n, sign, aa, an, ac, args⟩).map (atK fn pc)) w5 by rw [HC.out, HVA.out, HVB.out, HVC.out]; exact hS5)
    have HF5 := Lib.hid (show FrK w w5 from (FrK.gr HW.out.hg).trans (FrK.trans (FrK.gr (by repeat (first | with_reducible exact grownBy_refl _ _ | with_reducible assumption | with_reducible refine World.grownBy.gr_drew ?_ | with_reducible refine gr_alloc ?_ _ | with_reducible refine grownBy_trans ?_ (by assumption)))) hF5))
    go_wp2_with fail
    go_end0
    exact ⟨rfl, HE5.out, HF5.out⟩
end

end Go.Proofs.YtajmkdbokdjmeaaGreat
/- gen: insn: calls. -/
namespace Go.Proofs.YtajmkdbokdjmeaaGreat
open Go.RowKit
section
variable {p : Prg} {Sa : Option Addr} {Sc gb fn pc : Nat} {w0 w : World} {L : List Kon} (a b c ww : Int) (sign : ByteArray) (aa : Option Addr) (ac : Nat) (args : List Int)
set_option maxRecDepth 100000 in
set_option maxHeartbeats 16000000 in
theorem ins_15 (h0 : Gen0 p Sa Sc w0) (hS : GenP p Sa Sc w0 gb L w) (hfn : fn < p.fns.length) (hl : L.length ≤ 40000000000) (N : Nat) (hN : N < p.fns.length) (hA : IntsAt w aa args.length ac args) (hle : args.length ≤ 4000) :
    Calls Tryz.prog 20 #[.pointer (some ⟨gb, 0, none⟩), .int .i64 fn, .int .i64 pc, insV ⟨15, a, b, c, ww, (N : Int), sign, aa, args.length, ac, args⟩] w fun e w' => e = .returned (.tuple #[]) ∧ GenP p Sa Sc w0 gb (L ++ (consI p.fns fn ⟨15, a, b, c, ww, (N : Int), sign, aa, args.length, ac, args⟩).map (atK fn pc)) w' ∧ FrK w w' := by
  have HS := Lib.hid hS
  have H0 := Lib.hid h0
  have HFN := Lib.hid hfn
  obtain ⟨ad, hSa, _⟩ := (hS.reads h0).first hfn
  subst hSa
  have HC := Lib.hid (show consI p.fns fn ⟨15, a, b, c, ww, (N : Int), sign, aa, args.length, ac, args⟩ = callV (fstK p.fns N) (tellK p.fns N) (wz (fstK p.fns fn + a)) (args.map fun x => wz (fstK p.fns fn + x)) from rfl)
  clear hS h0 
  unfold insV insC
  go_enter Tryz.func20, Tryz.ntmps20
  go_wp2_with fail
  refine (creators_any _ _ _).mono ?_
  rintro e w1 ⟨b1, b2, b3, rfl, hcr, hg1⟩
  have HW := Lib.hid (InsW.new (i := ⟨15, a, b, c, ww, (N : Int), sign, aa, args.length, ac, args⟩) HS.out hcr hg1)
  clear hcr hg1 HS
  go_upto_region 2 with fail
  unfold crC at HW
  generalize w1.alloc _ = W2 at *
  generalize w.heap.size = ib at *
  generalize w1.heap.size = q at *
  obtain ⟨ad', hAD, c1⟩ := (HW.out.hM.st.reads H0.out).first hfn
  injection hAD with hAD
  subst hAD
  have c3 := HW.out.hM.st.cell1.2
  obtain ⟨i0, i1, i2, i3, i4, i5, i6, i7⟩ := boxI HW.out.hi
  obtain ⟨k0, k1, k2⟩ := boxK HW.out.hk
  obtain ⟨va, hva⟩ : ∃ z, IntKind.i64.wrap (fstK p.fns fn + a) = z := ⟨_, rfl⟩
  obtain ⟨vb, hvb⟩ : ∃ z, IntKind.i64.wrap (fstK p.fns fn + b) = z := ⟨_, rfl⟩
  have HVA := Lib.hid (show wz (fstK p.fns fn + a) = va from hva)
  have HVB := Lib.hid (show wz (fstK p.fns fn + b) = vb from hvb)
  have HKP := Lib.hid (fun (W : World) (k : FrK W2 W) => (show (W.cell? ⟨ib, 5, none⟩ = some (.int .i64 (N : Int)) ∧ W.cell? ⟨ib, 7, none⟩ = some (.slice aa args.length ac)) ∧ W.cell? ⟨q, 0, none⟩ = some (.func (.func 57) #[] #[.pointer (some ⟨b3, 0, none⟩)]) ∧ W.cell? ⟨q, 1, none⟩ = some (.func (.func 56) #[] #[.pointer (some ⟨b1, 0, none⟩), .pointer (some ⟨b2, 0, none⟩)]) ∧ W.cell? ⟨q, 2, none⟩ = some (.func (.func 58) #[] #[.pointer (some ⟨b3, 0, none⟩)]) from
    ⟨⟨(boxI (HW.out.hi.fr k (by decide) (by decide))).2.2.2.2.2.1, (boxI (HW.out.hi.fr k (by decide) (by decide))).2.2.2.2.2.2.2⟩, boxK (HW.out.hk.fr k (by decide) (by decide))⟩))
  have HAR := Lib.hid (IntsAt.keep hA (.of HW.out.hg))
  obtain ⟨M, hMM⟩ : ∃ M, M = args.map fun x => wz (fstK p.fns fn + x) := ⟨_, rfl⟩
  have HMM := Lib.hid hMM
  have hML : M.length = args.length := by rw [hMM, List.length_map]
  have HML := Lib.hid hML
  have HVR := Lib.hid (fun (W : World) (hg : W2.grownBy W none) => (variables_any (w := W) ((HW.out.hM.st.reads H0.out).keep (CellsK.of hg)) fn hfn aa ac args (HAR.out.keep (.of hg)) hle).mono fun e w' h => (show ∃ B m, e = .returned (.slice B M.length m) ∧ ArgsAt w' B M.length m M ∧ W.grownBy w' none from by
    obtain ⟨B, m, rfl, h1, h2⟩ := h
    rw [HML.out]
    refine ⟨B, m, rfl, ?_, h2⟩
    rw [HMM.out]
    exact h1))
  clear hMM hML
  generalize fstK p.fns fn = s at *
  go_upto_region 30 with go_region
  go_region_held3 (fun W => (W.cell? ⟨ib, 5, none⟩ = some (.int .i64 (N : Int)) ∧ W.cell? ⟨ib, 7, none⟩ = some (.slice aa args.length ac)) ∧ W.cell? ⟨q, 0, none⟩ = some (.func (.func 57) #[] #[.pointer (some ⟨b3, 0, none⟩)]) ∧ W.cell? ⟨q, 1, none⟩ = some (.func (.func 56) #[] #[.pointer (some ⟨b1, 0, none⟩), .pointer (some ⟨b2, 0, none⟩)]) ∧ W.cell? ⟨q, 2, none⟩ = some (.func (.func 58) #[] #[.pointer (some ⟨b3, 0, none⟩)])) (first | assumption | (refine HKP.out _ (FrK.gr ?_); (repeat (first | with_reducible exact grownBy_refl _ _ | with_reducible assumption | with_reducible refine World.grownBy.gr_drew ?_ | with_reducible refine gr_alloc ?_ _ | with_reducible refine grownBy_trans ?_ (by assumption))); done) | (refine HKP.out _ (FrK.trans (FrK.gr ?_) (by assumption)); (repeat (first | with_reducible exact grownBy_refl _ _ | with_reducible assumption | with_reducible refine World.grownBy.gr_drew ?_ | with_reducible refine gr_alloc ?_ _ | with_reducible refine grownBy_trans ?_ (by assumption))); done)) (first
    | (go_at_call 33; refine (HVR.out _ ?_).mono ?_; (focus repeat (first | with_reducible exact grownBy_refl _ _ | with_reducible assumption | with_reducible refine World.grownBy.gr_drew ?_ | with_reducible refine gr_alloc ?_ _ | with_reducible refine grownBy_trans ?_ (by assumption))); rintro e w3 ⟨B3, m3, rfl, hA3, hg3⟩)
    | (go_at_call 32; refine (call_any H0.out (HW.out.hM.keep ?_) va N hN B3 m3 M hA3 (by rw [HML.out]; exact hle) (by omega)).mono ?_; (focus repeat (first | with_reducible exact grownBy_refl _ _ | with_reducible assumption | with_reducible refine World.grownBy.gr_drew ?_ | with_reducible refine gr_alloc ?_ _ | with_reducible refine grownBy_trans ?_ (by assumption))); rintro e w5 ⟨rfl, hS5, hF5⟩))
  all_goals
    have HE5 := Lib.hid (show GenP p (some ad) Sc w0 gb (L ++ (consI p.fns fn ⟨15, a, b, c, ww, (N : Int), sign, aa, args.length, ac, args⟩).map (atK fn pc)) w5 by rw [HC.out, HVA.out, ← HMM.out]; exact hS5)
    have HF5 := Lib.hid (show FrK w w5 from (FrK.gr HW.out.hg).trans (FrK.trans (FrK.gr (by repeat (first | with_reducible exact grownBy_refl _ _ | with_reducible assumption | with_reducible refine World.grownBy.gr_drew ?_ | with_reducible refine gr_alloc ?_ _ | with_reducible refine grownBy_trans ?_ (by assumption)))) hF5))
    go_wp2_with fail
    go_end0
    exact ⟨rfl, HE5.out, HF5.out⟩
end

end Go.Proofs.YtajmkdbokdjmeaaGreat
/- gen: insn: calls by a pointer. -/
namespace Go.Proofs.YtajmkdbokdjmeaaGreat
open Go.RowKit
section
variable {p : Prg} {Sa : Option Addr} {Sc gb fn pc : Nat} {w0 w : World} {L : List Kon} (a b c ww n : Int) (sign : ByteArray) (aa : Option Addr) (ac : Nat) (args : List Int)
set_option maxRecDepth 100000 in
set_option maxHeartbeats 16000000 in
theorem ins_16 (h0 : Gen0 p Sa Sc w0) (hS : GenP p Sa Sc w0 gb L w) (hfn : fn < p.fns.length) (hl : L.length ≤ 40000000000) (hA : IntsAt w aa args.length ac args) (hle : args.length ≤ 4000) :
    Calls Tryz.prog 20 #[.pointer (some ⟨gb, 0, none⟩), .int .i64 fn, .int .i64 pc, insV ⟨16, a, b, c, ww, n, sign, aa, args.length, ac, args⟩] w fun e w' => e = .returned (.tuple #[]) ∧ ∃ D, D.map bare = (consI p.fns fn ⟨16, a, b, c, ww, n, sign, aa, args.length, ac, args⟩).map (atK fn pc) ∧ GenP p Sa Sc w0 gb (L ++ D) w' ∧ FrK w w' := by
  have HS := Lib.hid hS
  have H0 := Lib.hid h0
  have HFN := Lib.hid hfn
  obtain ⟨ad, hSa, _⟩ := (hS.reads h0).first hfn
  subst hSa
  have HC := Lib.hid (show consI p.fns fn ⟨16, a, b, c, ww, n, sign, aa, args.length, ac, args⟩ = [callK (wz (fstK p.fns fn + a)) (wz (fstK p.fns fn + b)) (args.map fun x => wz (fstK p.fns fn + x))] from rfl)
  clear hS h0 
  unfold insV insC
  go_enter Tryz.func20, Tryz.ntmps20
  go_wp2_with fail
  refine (creators_any _ _ _).mono ?_
  rintro e w1 ⟨b1, b2, b3, rfl, hcr, hg1⟩
  have HW := Lib.hid (InsW.new (i := ⟨16, a, b, c, ww, n, sign, aa, args.length, ac, args⟩) HS.out hcr hg1)
  clear hcr hg1 HS
  go_upto_region 2 with fail
  unfold crC at HW
  generalize w1.alloc _ = W2 at *
  generalize w.heap.size = ib at *
  generalize w1.heap.size = q at *
  obtain ⟨ad', hAD, c1⟩ := (HW.out.hM.st.reads H0.out).first hfn
  injection hAD with hAD
  subst hAD
  have c3 := HW.out.hM.st.cell1.2
  obtain ⟨i0, i1, i2, i3, i4, i5, i6, i7⟩ := boxI HW.out.hi
  obtain ⟨k0, k1, k2⟩ := boxK HW.out.hk
  obtain ⟨va, hva⟩ : ∃ z, IntKind.i64.wrap (fstK p.fns fn + a) = z := ⟨_, rfl⟩
  obtain ⟨vb, hvb⟩ : ∃ z, IntKind.i64.wrap (fstK p.fns fn + b) = z := ⟨_, rfl⟩
  have HVA := Lib.hid (show wz (fstK p.fns fn + a) = va from hva)
  have HVB := Lib.hid (show wz (fstK p.fns fn + b) = vb from hvb)
  have HKP := Lib.hid (fun (W : World) (k : FrK W2 W) => (show (W.cell? ⟨ib, 5, none⟩ = some (.int .i64 n) ∧ W.cell? ⟨ib, 7, none⟩ = some (.slice aa args.length ac)) ∧ W.cell? ⟨q, 0, none⟩ = some (.func (.func 57) #[] #[.pointer (some ⟨b3, 0, none⟩)]) ∧ W.cell? ⟨q, 1, none⟩ = some (.func (.func 56) #[] #[.pointer (some ⟨b1, 0, none⟩), .pointer (some ⟨b2, 0, none⟩)]) ∧ W.cell? ⟨q, 2, none⟩ = some (.func (.func 58) #[] #[.pointer (some ⟨b3, 0, none⟩)]) from
    ⟨⟨(boxI (HW.out.hi.fr k (by decide) (by decide))).2.2.2.2.2.1, (boxI (HW.out.hi.fr k (by decide) (by decide))).2.2.2.2.2.2.2⟩, boxK (HW.out.hk.fr k (by decide) (by decide))⟩))
  have HAR := Lib.hid (IntsAt.keep hA (.of HW.out.hg))
  obtain ⟨M, hMM⟩ : ∃ M, M = args.map fun x => wz (fstK p.fns fn + x) := ⟨_, rfl⟩
  have HMM := Lib.hid hMM
  have hML : M.length = args.length := by rw [hMM, List.length_map]
  have HML := Lib.hid hML
  have HVR := Lib.hid (fun (W : World) (hg : W2.grownBy W none) => (variables_any (w := W) ((HW.out.hM.st.reads H0.out).keep (CellsK.of hg)) fn hfn aa ac args (HAR.out.keep (.of hg)) hle).mono fun e w' h => (show ∃ B m, e = .returned (.slice B M.length m) ∧ ArgsAt w' B M.length m M ∧ W.grownBy w' none from by
    obtain ⟨B, m, rfl, h1, h2⟩ := h
    rw [HML.out]
    refine ⟨B, m, rfl, ?_, h2⟩
    rw [HMM.out]
    exact h1))
  clear hMM hML
  generalize fstK p.fns fn = s at *
  go_upto_region 32 with go_region
  go_region_held3 (fun W => (W.cell? ⟨ib, 5, none⟩ = some (.int .i64 n) ∧ W.cell? ⟨ib, 7, none⟩ = some (.slice aa args.length ac)) ∧ W.cell? ⟨q, 0, none⟩ = some (.func (.func 57) #[] #[.pointer (some ⟨b3, 0, none⟩)]) ∧ W.cell? ⟨q, 1, none⟩ = some (.func (.func 56) #[] #[.pointer (some ⟨b1, 0, none⟩), .pointer (some ⟨b2, 0, none⟩)]) ∧ W.cell? ⟨q, 2, none⟩ = some (.func (.func 58) #[] #[.pointer (some ⟨b3, 0, none⟩)])) (first | assumption | (refine HKP.out _ (FrK.gr ?_); (repeat (first | with_reducible exact grownBy_refl _ _ | with_reducible assumption | with_reducible refine World.grownBy.gr_drew ?_ | with_reducible refine gr_alloc ?_ _ | with_reducible refine grownBy_trans ?_ (by assumption))); done) | (refine HKP.out _ (FrK.trans (FrK.gr ?_) (by assumption)); (repeat (first | with_reducible exact grownBy_refl _ _ | with_reducible assumption | with_reducible refine World.grownBy.gr_drew ?_ | with_reducible refine gr_alloc ?_ _ | with_reducible refine grownBy_trans ?_ (by assumption))); done)) (first
    | (go_at_call 33; refine (HVR.out _ ?_).mono ?_; (focus repeat (first | with_reducible exact grownBy_refl _ _ | with_reducible assumption | with_reducible refine World.grownBy.gr_drew ?_ | with_reducible refine gr_alloc ?_ _ | with_reducible refine grownBy_trans ?_ (by assumption))); rintro e w3 ⟨B3, m3, rfl, hA3, hg3⟩)
    | (go_at_call 58; refine (callC_any (HW.out.hM.cr.gr ?_) _ _ _ _ _).mono ?_; (focus repeat (first | with_reducible exact grownBy_refl _ _ | with_reducible assumption | with_reducible refine World.grownBy.gr_drew ?_ | with_reducible refine gr_alloc ?_ _ | with_reducible refine grownBy_trans ?_ (by assumption))); rintro e w4 ⟨rfl, hg4⟩)
    | (go_at_call 29; refine (collect_any (D := [⟨8, va, vb, 0, 0, 0, B3, M.length, m3, M, fn, pc⟩]) (HW.out.hM.st.keep ?_) (some ⟨_, 0, none⟩) 1 1 rfl (one_kon (heap_alloc_new _ _)) (fun h => by cases h) ?_ (by simp; omega)).mono ?_; (focus repeat (first | with_reducible exact grownBy_refl _ _ | with_reducible assumption | with_reducible refine World.grownBy.gr_drew ?_ | with_reducible refine gr_alloc ?_ _ | with_reducible refine grownBy_trans ?_ (by assumption))); (focus (refine KArgs.one (ArgsAt.fr hA3 (FrK.gr ?_)); repeat (first | with_reducible exact grownBy_refl _ _ | with_reducible assumption | with_reducible refine World.grownBy.gr_drew ?_ | with_reducible refine gr_alloc ?_ _ | with_reducible refine grownBy_trans ?_ (by assumption)))); rintro e w5 ⟨rfl, hS5, hF5⟩))
  all_goals
    have HE5 := Lib.hid (show ∃ D, D.map bare = (consI p.fns fn ⟨16, a, b, c, ww, n, sign, aa, args.length, ac, args⟩).map (atK fn pc) ∧ GenP p (some ad) Sc w0 gb (L ++ D) w5 ∧ FrK w w5 from
      ⟨_, by rw [HC.out, HVA.out, HVB.out, ← HMM.out]; rfl, hS5, (FrK.gr HW.out.hg).trans (FrK.trans (FrK.gr (w' := w4.alloc _) (by repeat (first | with_reducible exact grownBy_refl _ _ | with_reducible assumption | with_reducible refine World.grownBy.gr_drew ?_ | with_reducible refine gr_alloc ?_ _ | with_reducible refine grownBy_trans ?_ (by assumption)))) hF5)⟩)
    go_wp2_with fail
    go_end0
    exact ⟨rfl, HE5.out⟩
end

end Go.Proofs.YtajmkdbokdjmeaaGreat
/- gen: insn: returns, and all others. -/
namespace Go.Proofs.YtajmkdbokdjmeaaGreat
open Go.RowKit
section
variable {p : Prg} {Sa : Option Addr} {Sc gb fn pc : Nat} {w0 w : World} {L : List Kon} (a b c ww n : Int) (sign : ByteArray) (aa : Option Addr) (an ac : Nat) (args : List Int)
set_option maxRecDepth 100000 in
set_option maxHeartbeats 16000000 in
theorem ins_19n (h0 : Gen0 p Sa Sc w0) (hS : GenP p Sa Sc w0 gb L w) (hfn : fn < p.fns.length) (_hl : L.length ≤ 40000000000) (h1 : a = -1) :
    Calls Tryz.prog 20 #[.pointer (some ⟨gb, 0, none⟩), .int .i64 fn, .int .i64 pc, insV ⟨19, a, b, c, ww, n, sign, aa, an, ac, args⟩] w fun e w' => e = .returned (.tuple #[]) ∧
      GenP p Sa Sc w0 gb (L ++ (consI p.fns fn ⟨19, a, b, c, ww, n, sign, aa, an, ac, args⟩).map (atK fn pc)) w' ∧ FrK w w' := by
  have e1 : (a != -1) = false := by rw [h1]; rfl
  have HS := Lib.hid hS
  have H0 := Lib.hid h0
  have HFN := Lib.hid hfn
  obtain ⟨ad, hSa, _⟩ := (hS.reads h0).first hfn
  subst hSa
  have HC := Lib.hid (show consI p.fns fn ⟨19, a, b, c, ww, n, sign, aa, an, ac, args⟩ = [] from (if_pos h1 : (if a = -1 then [] else [twoK 2 (tellK p.fns fn) (wz (fstK p.fns fn + a)) 0]) = _))
  clear hS h0 h1
  unfold insV insC
  go_enter Tryz.func20, Tryz.ntmps20
  go_wp2_with fail
  refine (creators_any _ _ _).mono ?_
  rintro e w1 ⟨b1, b2, b3, rfl, hcr, hg1⟩
  have HW := Lib.hid (InsW.new (i := ⟨19, a, b, c, ww, n, sign, aa, an, ac, args⟩) HS.out hcr hg1)
  clear hcr hg1 HS
  go_upto_region 2 with fail
  unfold crC at HW
  generalize w1.alloc _ = W2 at *
  generalize w.heap.size = ib at *
  generalize w1.heap.size = q at *
  obtain ⟨ad', hAD, c1⟩ := (HW.out.hM.st.reads H0.out).first hfn
  injection hAD with hAD
  subst hAD
  have c3 := HW.out.hM.st.cell1.2
  obtain ⟨i0, i1, i2, i3, i4, i5, i6, i7⟩ := boxI HW.out.hi
  obtain ⟨k0, k1, k2⟩ := boxK HW.out.hk
  obtain ⟨va, hva⟩ : ∃ z, IntKind.i64.wrap (fstK p.fns fn + a) = z := ⟨_, rfl⟩
  obtain ⟨vb, hvb⟩ : ∃ z, IntKind.i64.wrap (fstK p.fns fn + b) = z := ⟨_, rfl⟩
  have HVA := Lib.hid (show wz (fstK p.fns fn + a) = va from hva)
  have HVB := Lib.hid (show wz (fstK p.fns fn + b) = vb from hvb)
  generalize fstK p.fns fn = s at *
  go_wp2_with go_region
  go_end0
  rw [HC.out, List.map_nil, List.append_nil]
  exact ⟨rfl, HW.out.hM.st.keep (by repeat (first | with_reducible exact grownBy_refl _ _ | with_reducible assumption | with_reducible refine World.grownBy.gr_drew ?_ | with_reducible refine World.grownBy.gr_set ?_ (by simp) _ | with_reducible refine gr_alloc ?_ _)), FrK.gr (grownBy_trans HW.out.hg (by repeat (first | with_reducible exact grownBy_refl _ _ | with_reducible assumption | with_reducible refine World.grownBy.gr_drew ?_ | with_reducible refine World.grownBy.gr_set ?_ (by simp) _ | with_reducible refine gr_alloc ?_ _)))⟩
set_option maxRecDepth 100000 in
set_option maxHeartbeats 16000000 in
theorem ins_19y (h0 : Gen0 p Sa Sc w0) (hS : GenP p Sa Sc w0 gb L w) (hfn : fn < p.fns.length) (hl : L.length ≤ 40000000000) (h1 : ¬ a = -1) :
    Calls Tryz.prog 20 #[.pointer (some ⟨gb, 0, none⟩), .int .i64 fn, .int .i64 pc, insV ⟨19, a, b, c, ww, n, sign, aa, an, ac, args⟩] w fun e w' => e = .returned (.tuple #[]) ∧
      GenP p Sa Sc w0 gb (L ++ (consI p.fns fn ⟨19, a, b, c, ww, n, sign, aa, an, ac, args⟩).map (atK fn pc)) w' ∧ FrK w w' := by
  have e1 : (a != -1) = true := by simpa using h1
  have HS := Lib.hid hS
  have H0 := Lib.hid h0
  have HFN := Lib.hid hfn
  obtain ⟨ad, hSa, _⟩ := (hS.reads h0).first hfn
  subst hSa
  have HC := Lib.hid (show consI p.fns fn ⟨19, a, b, c, ww, n, sign, aa, an, ac, args⟩ = [twoK 2 (tellK p.fns fn) (wz (fstK p.fns fn + a)) 0] from (if_neg h1 : (if a = -1 then [] else [twoK 2 (tellK p.fns fn) (wz (fstK p.fns fn + a)) 0]) = _))
  clear hS h0 h1
  unfold insV insC
  go_enter Tryz.func20, Tryz.ntmps20
  go_wp2_with fail
  refine (creators_any _ _ _).mono ?_
  rintro e w1 ⟨b1, b2, b3, rfl, hcr, hg1⟩
  have HW := Lib.hid (InsW.new (i := ⟨19, a, b, c, ww, n, sign, aa, an, ac, args⟩) HS.out hcr hg1)
  clear hcr hg1 HS
  go_upto_region 2 with fail
  unfold crC at HW
  generalize w1.alloc _ = W2 at *
  generalize w.heap.size = ib at *
  generalize w1.heap.size = q at *
  obtain ⟨ad', hAD, c1⟩ := (HW.out.hM.st.reads H0.out).first hfn
  injection hAD with hAD
  subst hAD
  have c3 := HW.out.hM.st.cell1.2
  obtain ⟨i0, i1, i2, i3, i4, i5, i6, i7⟩ := boxI HW.out.hi
  obtain ⟨k0, k1, k2⟩ := boxK HW.out.hk
  obtain ⟨va, hva⟩ : ∃ z, IntKind.i64.wrap (fstK p.fns fn + a) = z := ⟨_, rfl⟩
  obtain ⟨vb, hvb⟩ : ∃ z, IntKind.i64.wrap (fstK p.fns fn + b) = z := ⟨_, rfl⟩
  have HVA := Lib.hid (show wz (fstK p.fns fn + a) = va from hva)
  have HVB := Lib.hid (show wz (fstK p.fns fn + b) = vb from hvb)
  have HKP := Lib.hid (fun (W : World) (k : FrK W2 W) => boxK (HW.out.hk.fr k (by decide) (by decide)))
  have HTL := Lib.hid (fun (W : World) (hg : W2.grownBy W none) => result_any (w := W) ((HW.out.hM.st.reads H0.out).keep (CellsK.of hg)) H0.out.small fn hfn)
  generalize htl : tellK p.fns fn = tl at *
  have HTE := Lib.hid htl
  clear htl
  generalize fstK p.fns fn = s at *
  go_upto_region 35 with go_region
  go_region_held3 (fun W => W.cell? ⟨q, 0, none⟩ = some (.func (.func 57) #[] #[.pointer (some ⟨b3, 0, none⟩)]) ∧ W.cell? ⟨q, 1, none⟩ = some (.func (.func 56) #[] #[.pointer (some ⟨b1, 0, none⟩), .pointer (some ⟨b2, 0, none⟩)]) ∧ W.cell? ⟨q, 2, none⟩ = some (.func (.func 58) #[] #[.pointer (some ⟨b3, 0, none⟩)])) (first | assumption | (refine HKP.out _ (FrK.gr ?_); (repeat (first | with_reducible exact grownBy_refl _ _ | with_reducible assumption | with_reducible refine World.grownBy.gr_drew ?_ | with_reducible refine gr_alloc ?_ _ | with_reducible refine grownBy_trans ?_ (by assumption))); done) | (refine HKP.out _ (FrK.trans (FrK.gr ?_) (by assumption)); (repeat (first | with_reducible exact grownBy_refl _ _ | with_reducible assumption | with_reducible refine World.grownBy.gr_drew ?_ | with_reducible refine gr_alloc ?_ _ | with_reducible refine grownBy_trans ?_ (by assumption))); done)) (first
    | (go_at_call 34; refine (HTL.out _ ?_).mono ?_; (focus repeat (first | with_reducible exact grownBy_refl _ _ | with_reducible assumption | with_reducible refine World.grownBy.gr_drew ?_ | with_reducible refine gr_alloc ?_ _ | with_reducible refine grownBy_trans ?_ (by assumption))); rintro e w3 ⟨rfl, hg3⟩)
    | (go_at_call 56; refine (flow_any (HW.out.hM.cr.gr ?_) _ _ _ _).mono ?_; (focus repeat (first | with_reducible exact grownBy_refl _ _ | with_reducible assumption | with_reducible refine World.grownBy.gr_drew ?_ | with_reducible refine gr_alloc ?_ _ | with_reducible refine grownBy_trans ?_ (by assumption))); rintro e w4 ⟨rfl, hg4⟩)
    | (go_at_call 29; refine (collect_any (D := [twoK 2 tl va 0].map (atK fn pc)) (HW.out.hM.st.keep ?_) (some ⟨_, 0, none⟩) 1 1 rfl (one_kon (heap_alloc_new _ _)) (fun h => by cases h) ?_ (by simp; omega)).mono ?_; (focus repeat (first | with_reducible exact grownBy_refl _ _ | with_reducible assumption | with_reducible refine World.grownBy.gr_drew ?_ | with_reducible refine gr_alloc ?_ _ | with_reducible refine grownBy_trans ?_ (by assumption))); (focus exact KArgs.none_ rfl); rintro e w5 ⟨rfl, hS5, hF5⟩))
  all_goals
    have HE5 := Lib.hid (show GenP p (some ad) Sc w0 gb (L ++ (consI p.fns fn ⟨19, a, b, c, ww, n, sign, aa, an, ac, args⟩).map (atK fn pc)) w5 by rw [HC.out, HVA.out]; exact hS5)
    have HF5 := Lib.hid (show FrK w w5 from (FrK.gr HW.out.hg).trans (FrK.trans (FrK.gr (w' := w4.alloc _) (by repeat (first | with_reducible exact grownBy_refl _ _ | with_reducible assumption | with_reducible refine World.grownBy.gr_drew ?_ | with_reducible refine gr_alloc ?_ _ | with_reducible refine grownBy_trans ?_ (by assumption)))) hF5))
    go_wp2_with fail
    go_end0
    exact ⟨rfl, HE5.out, HF5.out⟩
set_option maxRecDepth 100000 in
set_option maxHeartbeats 16000000 in
theorem ins_else (h0 : Gen0 p Sa Sc w0) (hS : GenP p Sa Sc w0 gb L w) (hfn : fn < p.fns.length) (_hl : L.length ≤ 40000000000) (op : Int) (ho : op ≠ 2 ∧ op ≠ 13 ∧ op ≠ 3 ∧ op ≠ 4 ∧ op ≠ 5 ∧ op ≠ 7 ∧ op ≠ 8 ∧ op ≠ 9 ∧ op ≠ 10 ∧ op ≠ 11 ∧ op ≠ 15 ∧ op ≠ 16 ∧ op ≠ 19) :
    Calls Tryz.prog 20 #[.pointer (some ⟨gb, 0, none⟩), .int .i64 fn, .int .i64 pc, insV ⟨op, a, b, c, ww, n, sign, aa, an, ac, args⟩] w fun e w' => e = .returned (.tuple #[]) ∧
      GenP p Sa Sc w0 gb (L ++ (consI p.fns fn ⟨op, a, b, c, ww, n, sign, aa, an, ac, args⟩).map (atK fn pc)) w' ∧ FrK w w' := by
  have e2 : (op == 2) = false := by simp; omega
  have e13 : (op == 13) = false := by simp; omega
  have e3 : (op == 3) = false := by simp; omega
  have e4 : (op == 4) = false := by simp; omega
  have e5 : (op == 5) = false := by simp; omega
  have e7 : (op == 7) = false := by simp; omega
  have e8 : (op == 8) = false := by simp; omega
  have e9 : (op == 9) = false := by simp; omega
  have e10 : (op == 10) = false := by simp; omega
  have e11 : (op == 11) = false := by simp; omega
  have e15 : (op == 15) = false := by simp; omega
  have e16 : (op == 16) = false := by simp; omega
  have e19 : (op == 19) = false := by simp; omega
  have HS := Lib.hid hS
  have H0 := Lib.hid h0
  have HFN := Lib.hid hfn
  obtain ⟨ad, hSa, _⟩ := (hS.reads h0).first hfn
  subst hSa
  have HC := Lib.hid (show consI p.fns fn ⟨op, a, b, c, ww, n, sign, aa, an, ac, args⟩ = [] from (by unfold consI; simp only; rw [if_neg (by omega), if_neg (by omega), if_neg (by omega), if_neg (by omega), if_neg (by omega), if_neg (by omega), if_neg (by omega), if_neg (by omega), if_neg (by omega), if_neg (by omega), if_neg (by omega), if_neg (by omega), if_neg (by omega)]))
  clear hS h0 ho
  unfold insV insC
  go_enter Tryz.func20, Tryz.ntmps20
  go_wp2_with fail
  refine (creators_any _ _ _).mono ?_
  rintro e w1 ⟨b1, b2, b3, rfl, hcr, hg1⟩
  have HW := Lib.hid (InsW.new (i := ⟨op, a, b, c, ww, n, sign, aa, an, ac, args⟩) HS.out hcr hg1)
  clear hcr hg1 HS
  go_upto_region 2 with fail
  unfold crC at HW
  generalize w1.alloc _ = W2 at *
  generalize w.heap.size = ib at *
  generalize w1.heap.size = q at *
  obtain ⟨ad', hAD, c1⟩ := (HW.out.hM.st.reads H0.out).first hfn
  injection hAD with hAD
  subst hAD
  have c3 := HW.out.hM.st.cell1.2
  obtain ⟨i0, i1, i2, i3, i4, i5, i6, i7⟩ := boxI HW.out.hi
  obtain ⟨k0, k1, k2⟩ := boxK HW.out.hk
  obtain ⟨va, hva⟩ : ∃ z, IntKind.i64.wrap (fstK p.fns fn + a) = z := ⟨_, rfl⟩
  obtain ⟨vb, hvb⟩ : ∃ z, IntKind.i64.wrap (fstK p.fns fn + b) = z := ⟨_, rfl⟩
  have HVA := Lib.hid (show wz (fstK p.fns fn + a) = va from hva)
  have HVB := Lib.hid (show wz (fstK p.fns fn + b) = vb from hvb)
  generalize fstK p.fns fn = s at *
  go_wp2_with go_region
  go_end0
  rw [HC.out, List.map_nil, List.append_nil]
  exact ⟨rfl, HW.out.hM.st.keep (by repeat (first | with_reducible exact grownBy_refl _ _ | with_reducible assumption | with_reducible refine World.grownBy.gr_drew ?_ | with_reducible refine World.grownBy.gr_set ?_ (by simp) _ | with_reducible refine gr_alloc ?_ _)), FrK.gr (grownBy_trans HW.out.hg (by repeat (first | with_reducible exact grownBy_refl _ _ | with_reducible assumption | with_reducible refine World.grownBy.gr_drew ?_ | with_reducible refine World.grownBy.gr_set ?_ (by simp) _ | with_reducible refine gr_alloc ?_ _)))⟩
end

end Go.Proofs.YtajmkdbokdjmeaaGreat
/- gen: insn, whatever the instruction. -/
namespace Go.Proofs.YtajmkdbokdjmeaaGreat
open Go.RowKit
/-- What is asked of an instruction's arguments. -/
def SmallI (n : Nat) (i : Ins) : Prop := (i.op = 15 → 0 ≤ i.n ∧ i.n < (n : Int) ∧ i.args.length ≤ 4000) ∧ (i.op = 16 → i.args.length ≤ 4000)
theorem bare_at (fn pc : Nat) (c : Kon) : bare (atK fn pc c) = atK fn pc (bare c) := rfl
theorem argV_bare (t : Int) (M : List Int) (q : Nat) : ∀ c ∈ argV t M q, bare c = c := by
  intro c hc
  obtain ⟨j, _, rfl⟩ := List.mem_map.1 hc
  rfl
theorem ite_mem {q : Prop} [Decidable q] {A B : List Kon} {P : Kon → Prop} (hA : ∀ c ∈ A, P c) (hB : ∀ c ∈ B, P c) : ∀ c ∈ (if q then A else B), P c := by
  split
  · exact hA
  · exact hB
theorem one_mem {x : Kon} {P : Kon → Prop} (h : P x) : ∀ c ∈ [x], P c := fun c hc => by
  obtain rfl := List.mem_singleton.1 hc
  exact h
theorem two_mem {x y : Kon} {P : Kon → Prop} (h : P x) (k : P y) : ∀ c ∈ [x, y], P c := fun c hc => by
  rcases List.mem_cons.1 hc with rfl | hc
  · exact h
  · obtain rfl := List.mem_singleton.1 hc
    exact k
theorem nil_mem {P : Kon → Prop} : ∀ c ∈ ([] : List Kon), P c := fun _ h => by cases h
theorem app_mem {A B : List Kon} {P : Kon → Prop} (hA : ∀ c ∈ A, P c) (hB : ∀ c ∈ B, P c) : ∀ c ∈ A ++ B, P c := fun c hc => (List.mem_append.1 hc).elim (hA c) (hB c)
theorem consI_bare (fs : List Fun') (fn : Nat) (i : Ins) : ∀ c ∈ consI fs fn i, bare c = c := by
  unfold consI callV
  repeat' first
    | exact nil_mem
    | exact one_mem rfl
    | exact two_mem rfl rfl
    | exact app_mem (argV_bare _ _ _) (one_mem rfl)
    | refine ite_mem ?_ ?_
theorem consI_map (fs : List Fun') (fn pc : Nat) (i : Ins) : ((consI fs fn i).map (atK fn pc)).map bare = (consI fs fn i).map (atK fn pc) := by
  rw [List.map_map]
  refine List.map_congr_left fun c hc => ?_
  show bare (atK fn pc c) = _
  rw [bare_at, consI_bare _ _ _ c hc]
theorem insn_any {p : Prg} {Sa : Option Addr} {Sc gb fn pc : Nat} {w0 w : World} {L : List Kon} (h0 : Gen0 p Sa Sc w0) (hS : GenP p Sa Sc w0 gb L w) (hfn : fn < p.fns.length) (hl : L.length ≤ 40000000000)
    (i : Ins) (hA : IntsAt w i.aa i.an i.ac i.args) (hs : SmallI p.fns.length i) :
    Calls Tryz.prog 20 #[.pointer (some ⟨gb, 0, none⟩), .int .i64 fn, .int .i64 pc, insV i] w fun e w' => e = .returned (.tuple #[]) ∧
      ∃ D, D.map bare = (consI p.fns fn i).map (atK fn pc) ∧ GenP p Sa Sc w0 gb (L ++ D) w' ∧ FrK w w' := by
  obtain ⟨op, a, b, c, ww, n, sign, aa, an, ac, args⟩ := i
  have hpl : ∀ {e : Ending} {w' : World}, (e = .returned (.tuple #[]) ∧ GenP p Sa Sc w0 gb (L ++ (consI p.fns fn ⟨op, a, b, c, ww, n, sign, aa, an, ac, args⟩).map (atK fn pc)) w' ∧ FrK w w') → (e = .returned (.tuple #[]) ∧
      ∃ D, D.map bare = (consI p.fns fn ⟨op, a, b, c, ww, n, sign, aa, an, ac, args⟩).map (atK fn pc) ∧ GenP p Sa Sc w0 gb (L ++ D) w' ∧ FrK w w') := fun h => ⟨h.1, _, consI_map _ _ _ _, h.2.1, h.2.2⟩
  obtain rfl : an = args.length := hA.1
  by_cases h2 : op = 2
  · subst h2; exact (ins_2 a b c ww n sign aa _ ac args h0 hS hfn hl).mono fun _ _ => hpl
  by_cases h13 : op = 13
  · subst h13; exact (ins_13 a b c ww n sign aa _ ac args h0 hS hfn hl).mono fun _ _ => hpl
  by_cases h3 : op = 3
  · subst h3
    by_cases q1 : n < -4096
    · exact (ins_3l a b c ww n sign aa _ ac args h0 hS hfn hl q1).mono fun _ _ => hpl
    · by_cases q2 : 4096 < n
      · exact (ins_3h a b c ww n sign aa _ ac args h0 hS hfn hl (by omega) q2).mono fun _ _ => hpl
      · exact (ins_3y a b c ww n sign aa _ ac args h0 hS hfn hl (by omega)).mono fun _ _ => hpl
  by_cases h4 : op = 4
  · subst h4
    by_cases q1 : n < 0
    · exact (ins_4l a b c ww n sign aa _ ac args h0 hS hfn hl q1).mono fun _ _ => hpl
    · by_cases q2 : 4096 < n
      · exact (ins_4h a b c ww n sign aa _ ac args h0 hS hfn hl (by omega) q2).mono fun _ _ => hpl
      · exact (ins_4y a b c ww n sign aa _ ac args h0 hS hfn hl (by omega)).mono fun _ _ => hpl
  by_cases h5 : op = 5
  · subst h5; exact (ins_5 a b c ww n sign aa _ ac args h0 hS hfn hl).mono fun _ _ => hpl
  by_cases h7 : op = 7
  · subst h7
    by_cases q1 : ww = 1 ∨ ww = 8
    · exact (ins_7y a b c ww n sign aa _ ac args h0 hS hfn hl q1).mono fun _ _ => hpl
    · exact (ins_7n a b c ww n sign aa _ ac args h0 hS hfn hl q1).mono fun _ _ => hpl
  by_cases h8 : op = 8
  · subst h8
    by_cases q1 : ww = 1 ∨ ww = 8
    · exact (ins_8y a b c ww n sign aa _ ac args h0 hS hfn hl q1).mono fun _ _ => hpl
    · exact (ins_8n a b c ww n sign aa _ ac args h0 hS hfn hl q1).mono fun _ _ => hpl
  by_cases h9 : op = 9
  · subst h9
    by_cases q1 : ww = 1 ∨ ww = 8
    · exact (ins_9y a b c ww n sign aa _ ac args h0 hS hfn hl q1).mono fun _ _ => hpl
    · exact (ins_9n a b c ww n sign aa _ ac args h0 hS hfn hl q1).mono fun _ _ => hpl
  by_cases h10 : op = 10
  · subst h10; exact (ins_10 a b c ww n sign aa _ ac args h0 hS hfn hl).mono fun _ _ => hpl
  by_cases h11 : op = 11
  · subst h11; exact (ins_11 a b c ww n sign aa _ ac args h0 hS hfn hl).mono fun _ _ => hpl
  by_cases h15 : op = 15
  · subst h15
    obtain ⟨q1, q2, q3⟩ := hs.1 rfl
    obtain ⟨N, rfl⟩ : ∃ N : Nat, n = N := ⟨n.toNat, (Int.toNat_of_nonneg q1).symm⟩
    exact (ins_15 a b c ww sign aa ac args h0 hS hfn hl N (by exact Int.ofNat_lt.1 q2) hA q3).mono fun _ _ => hpl
  by_cases h16 : op = 16
  · subst h16
    exact ins_16 a b c ww n sign aa ac args h0 hS hfn hl hA (hs.2 rfl)
  by_cases h19 : op = 19
  · subst h19
    by_cases q1 : a = -1
    · exact (ins_19n a b c ww n sign aa _ ac args h0 hS hfn hl q1).mono fun _ _ => hpl
    · exact (ins_19y a b c ww n sign aa _ ac args h0 hS hfn hl q1).mono fun _ _ => hpl
  exact (ins_else a b c ww n sign aa _ ac args h0 hS hfn hl op ⟨h2, h13, h3, h4, h5, h7, h8, h9, h10, h11, h15, h16, h19⟩).mono fun _ _ => hpl

end Go.Proofs.YtajmkdbokdjmeaaGreat
/- gen: Vars. -/
namespace Go.Proofs.YtajmkdbokdjmeaaGreat
open Go.RowKit
theorem fstsL_take {fs : List Fun'} {k : Nat} (h : k < fs.length) : (fstsL fs).take (k + 1) = (fstsL fs).take k ++ [fstK fs k] := by
  rw [List.take_add_one, fstsL_at h]
  rfl
theorem fstK_all (fs : List Fun') : fstK fs fs.length = regS fs := by unfold fstK; rw [List.take_length]
set_option maxRecDepth 100000 in
set_option maxHeartbeats 8000000 in
theorem Vars_any (p : Prg) (w : World) (hf : StrAt funC 5 w p.fa p.fns) (hs : SmallF p.fns) :
    Calls Tryz.prog 10 #[prgV p] w fun e w' => ∃ A c, e = .returned (.tuple #[.slice A p.fns.length c, .int .i64 (regS p.fns)]) ∧ ArgsAt w' A p.fns.length c (fstsL p.fns) ∧ w.grownBy w' none := by
  have HF := Lib.hid hf
  have HS := Lib.hid hs
  have hn := hs.1
  have HE := Lib.hid (fstK_all p.fns)
  clear hf hs
  unfold prgV prgC
  go_enter Tryz.func10, Tryz.ntmps10
  go_wp2_with fail
  go_loopw [4, 5, 11] (fun v s i wr => ∃ k : Nat, k ≤ p.fns.length ∧ i = .int .i64 k ∧ s = .int .i64 (fstK p.fns k) ∧ Hid (OwN w.heap.size wr v ((fstsL p.fns).take k)) ∧ Hid (w.grownBy wr none)) (fun v s i _ => p.fns.length - (intOf i).toNat)
  case atStart => exact ⟨0, Nat.zero_le _, rfl, rfl, Lib.hid (OwN.nil _ _), Lib.hid (by repeat (first | with_reducible exact grownBy_refl _ _ | with_reducible assumption | with_reducible refine World.grownBy.gr_drew ?_ | with_reducible refine World.grownBy.gr_set ?_ (by simp) _ | with_reducible refine gr_alloc ?_ _))⟩
  case round =>
    obtain ⟨k, hk, rfl, rfl, HO, HG⟩ := hrel
    have hlen : ((fstsL p.fns).take k).length = k := by rw [List.length_take, fstsL_len]; omega
    obtain ⟨V, d, hv, _⟩ := HO.out.args
    rw [hlen] at hv
    subst hv
    have HLEN := Lib.hid hlen
    clear hlen
    by_cases hlt : k < p.fns.length
    · obtain ⟨ad, ha, f0, f1, f2, f3, f4⟩ := fun_cells (HF.out.keep (CellsK.of HG.out)) hlt
      have hx := List.getElem?_eq_getElem hlt
      generalize p.fns[k]'hlt = f at *
      have HSU := Lib.hid (fstK_succ hx)
      have hb := HS.out.fst k
      have hr := HS.out.2 f (List.mem_of_getElem? hx)
      have HQ := Lib.hid (show IntKind.i64.wrap ((k : Int) + 1) = (k : Int) + 1 by rw [IntKind.wrap_i64]; omega)
      have hw1 : IntKind.i64.wrap (f.regs + 1) = f.regs + 1 := by rw [IntKind.wrap_i64]; omega
      have hw2 : IntKind.i64.wrap (fstK p.fns k + (f.regs + 1)) = fstK p.fns (k + 1) := by rw [HSU.out, IntKind.wrap_i64]; omega
      have hgs := HG.out.size
      clear hx hb hr
      rw [ha]
      generalize hfk : fstK p.fns k = s at *
      have HFK := Lib.hid hfk
      clear hfk
      go_wp2_with (at_builtin; go_must (refine app_one rfl (.tmp 15) (.tmp 17) rfl w.heap.size (.slice V k d) ((fstsL p.fns).take k) rfl (HO.out.gr (gr_alloc (gr_alloc (grownBy_refl wr none) _) _)) (wr.heap.size + 1) s (0, 0) rfl (alloc_at (by simp)) (by rw [HLEN.out]; omega) (by simp; omega) ?_; intro v1 w1 ho1 hg1; obtain ⟨A1, c1', hv1, _⟩ := ho1.out.args; rw [List.length_append, HLEN.out] at hv1; subst hv1; have hbx : BoxC (funC f) 39 wr.heap.size w1 := (hg1.out.block _ (by simp; omega) (fun e => by have := (World.ownsRow.lt HO.out _ e.symm).2; omega)).trans (alloc_keep (alloc_at rfl)); obtain ⟨q0, q1, q2, q3, q4⟩ := boxF hbx; clear hbx))
      refine ⟨⟨k + 1, hlt, rfl, rfl, Lib.hid ?_, Lib.hid (gr_own (gr_alloc (gr_alloc HG.out _) _) hg1.out fun j hj => (World.ownsRow.lt HO.out j hj).1)⟩, by simp [intOf]; omega⟩
      rw [fstsL_take hlt, HFK.out]
      exact ho1.out
    · obtain rfl : k = p.fns.length := by omega
      go_wp2_with fail
      go_ret2
      have h1 := HO.out
      rw [List.take_of_length_le (by rw [fstsL_len]; exact Nat.le_refl _)] at h1
      obtain ⟨A1, c1, hv, h2⟩ := h1.args
      rw [fstsL_len] at hv h2
      rw [hv, HE.out]
      exact ⟨_, _, rfl, h2, HG.out⟩

end Go.Proofs.YtajmkdbokdjmeaaGreat
