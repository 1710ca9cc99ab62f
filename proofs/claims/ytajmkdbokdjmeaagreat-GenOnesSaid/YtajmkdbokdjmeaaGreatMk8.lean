/- Merged: Rn6, Rn7, Rn8, Rn9. -/
import Derived.Test.YtajmkdbokdjmeaaGreatMk7
/- The document: Insn: widths. -/
namespace Go.Proofs.YtajmkdbokdjmeaaGreat
open Go.RowKit
section
variable {p : Prg} {fn : Nat} {w : World} (a b c ww n : Int) (sign : ByteArray) (aa : Option Addr) (an ac : Nat) (args : List Int)
set_option maxRecDepth 100000 in
set_option maxHeartbeats 16000000 in
theorem rin_7a (hf : StrAt funC 5 w p.fa p.fns) (hs : SmallF p.fns) (hfn : fn < p.fns.length) (h1 : ww = 1) :
    Calls Tryz.prog 21 #[prgV p, .int .i64 fn, insV ⟨7, a, b, c, ww, n, sign, aa, an, ac, args⟩] w (GenRet w (consI p.fns fn ⟨7, a, b, c, ww, n, sign, aa, an, ac, args⟩)) := by
  have e1 : (ww == 1) = true := by simpa using h1
  have HF := Lib.hid hf
  have HS := Lib.hid hs
  have HFN := Lib.hid hfn
  have HC := Lib.hid (show consI p.fns fn ⟨7, a, b, c, ww, n, sign, aa, an, ac, args⟩ = [twoK 2 (wz (fstK p.fns fn + a)) (wz (fstK p.fns fn + b)) 0] from (if_pos (.inl h1) : (if ww = 1 ∨ ww = 8 then [twoK 2 (wz (fstK p.fns fn + a)) (wz (fstK p.fns fn + b)) 0] else []) = _))
  clear hf hs h1
  unfold prgV insV prgC insC
  go_enter Tryz.func21, Tryz.ntmps21
  go_wp2_with fail
  refine (show Calls Tryz.prog 19 #[.agg #[.slice p.sa p.sites.length p.sc, .slice p.fa p.fns.length p.fc, .int .i64 p.main], .int .i64 fn] _ _ from First_any p _ (HF.out.keep (CellsK.of (gr_alloc (gr_alloc (grownBy_refl w none) _) _))) HS.out fn (Nat.le_of_lt hfn)).mono ?_
  rintro e w1 ⟨rfl, hg1⟩
  have HG1 := Lib.hid (grownBy_trans (gr_alloc (gr_alloc (grownBy_refl w none) (.cells (prgC p) 25)) (.cells (insC ⟨7, a, b, c, ww, n, sign, aa, an, ac, args⟩) 36)) hg1)
  have HB1 := Lib.hid (show BoxC (prgC p) 25 w.heap.size w1 from ((BoxC.new w (prgC p) 25).gr (gr_alloc (grownBy_refl _ _) _)).gr hg1)
  have HI1 := Lib.hid (show BoxC (insC ⟨7, a, b, c, ww, n, sign, aa, an, ac, args⟩) 36 (w.heap.size + 1) w1 from BoxC.gr (show BoxC (insC ⟨7, a, b, c, ww, n, sign, aa, an, ac, args⟩) 36 (w.heap.size + 1) ((w.alloc (.cells (prgC p) 25)).alloc (.cells (insC ⟨7, a, b, c, ww, n, sign, aa, an, ac, args⟩) 36)) from alloc_at (by simp)) hg1)
  obtain ⟨b0, b1, b2⟩ := boxP HB1.out
  obtain ⟨i0, i1, i2, i3, i4, i5, i6, i7⟩ := boxI HI1.out
  have lb := lt_of_heap HB1.out
  have li := lt_of_heap HI1.out
  clear hg1
  obtain ⟨va, hva⟩ : ∃ z, IntKind.i64.wrap (fstK p.fns fn + a) = z := ⟨_, rfl⟩
  obtain ⟨vb, hvb⟩ : ∃ z, IntKind.i64.wrap (fstK p.fns fn + b) = z := ⟨_, rfl⟩
  obtain ⟨vc, hvc⟩ : ∃ z, IntKind.i64.wrap (fstK p.fns fn + c) = z := ⟨_, rfl⟩
  have HVA := Lib.hid (show wz (fstK p.fns fn + a) = va from hva)
  have HVB := Lib.hid (show wz (fstK p.fns fn + b) = vb from hvb)
  have HVC := Lib.hid (show wz (fstK p.fns fn + c) = vc from hvc)
  generalize fstK p.fns fn = s at *
  go_wp2_with fail
  refine (two_any _ _ _ _ _).mono ?_
  rintro e w3 ⟨rfl, ho3, hg3⟩
  have HO3 := Lib.hid ho3
  have HG3 := Lib.hid (grownBy_trans HG1.out hg3)
  clear ho3 hg3
  go_wp2_with fail
  go_ret
  exact ⟨_, _, [twoK 2 va vb 0], rfl, (fun h => by cases h), StrAt.of_own konC_size HO3.out, .of, by rw [HC.out, HVA.out, HVB.out]; rfl, HG3.out, fun ad h => by injection h with h; subst h; exact HG1.out.size⟩
set_option maxRecDepth 100000 in
set_option maxHeartbeats 16000000 in
theorem rin_7b (hf : StrAt funC 5 w p.fa p.fns) (hs : SmallF p.fns) (hfn : fn < p.fns.length) (h0 : ¬ ww = 1) (h1 : ww = 8) :
    Calls Tryz.prog 21 #[prgV p, .int .i64 fn, insV ⟨7, a, b, c, ww, n, sign, aa, an, ac, args⟩] w (GenRet w (consI p.fns fn ⟨7, a, b, c, ww, n, sign, aa, an, ac, args⟩)) := by
  have e1 : (ww == 1) = false := by simpa using h0
  have e8 : (ww == 8) = true := by simpa using h1
  have HF := Lib.hid hf
  have HS := Lib.hid hs
  have HFN := Lib.hid hfn
  have HC := Lib.hid (show consI p.fns fn ⟨7, a, b, c, ww, n, sign, aa, an, ac, args⟩ = [twoK 2 (wz (fstK p.fns fn + a)) (wz (fstK p.fns fn + b)) 0] from (if_pos (.inr h1) : (if ww = 1 ∨ ww = 8 then [twoK 2 (wz (fstK p.fns fn + a)) (wz (fstK p.fns fn + b)) 0] else []) = _))
  clear hf hs h0 h1
  unfold prgV insV prgC insC
  go_enter Tryz.func21, Tryz.ntmps21
  go_wp2_with fail
  refine (show Calls Tryz.prog 19 #[.agg #[.slice p.sa p.sites.length p.sc, .slice p.fa p.fns.length p.fc, .int .i64 p.main], .int .i64 fn] _ _ from First_any p _ (HF.out.keep (CellsK.of (gr_alloc (gr_alloc (grownBy_refl w none) _) _))) HS.out fn (Nat.le_of_lt hfn)).mono ?_
  rintro e w1 ⟨rfl, hg1⟩
  have HG1 := Lib.hid (grownBy_trans (gr_alloc (gr_alloc (grownBy_refl w none) (.cells (prgC p) 25)) (.cells (insC ⟨7, a, b, c, ww, n, sign, aa, an, ac, args⟩) 36)) hg1)
  have HB1 := Lib.hid (show BoxC (prgC p) 25 w.heap.size w1 from ((BoxC.new w (prgC p) 25).gr (gr_alloc (grownBy_refl _ _) _)).gr hg1)
  have HI1 := Lib.hid (show BoxC (insC ⟨7, a, b, c, ww, n, sign, aa, an, ac, args⟩) 36 (w.heap.size + 1) w1 from BoxC.gr (show BoxC (insC ⟨7, a, b, c, ww, n, sign, aa, an, ac, args⟩) 36 (w.heap.size + 1) ((w.alloc (.cells (prgC p) 25)).alloc (.cells (insC ⟨7, a, b, c, ww, n, sign, aa, an, ac, args⟩) 36)) from alloc_at (by simp)) hg1)
  obtain ⟨b0, b1, b2⟩ := boxP HB1.out
  obtain ⟨i0, i1, i2, i3, i4, i5, i6, i7⟩ := boxI HI1.out
  have lb := lt_of_heap HB1.out
  have li := lt_of_heap HI1.out
  clear hg1
  obtain ⟨va, hva⟩ : ∃ z, IntKind.i64.wrap (fstK p.fns fn + a) = z := ⟨_, rfl⟩
  obtain ⟨vb, hvb⟩ : ∃ z, IntKind.i64.wrap (fstK p.fns fn + b) = z := ⟨_, rfl⟩
  obtain ⟨vc, hvc⟩ : ∃ z, IntKind.i64.wrap (fstK p.fns fn + c) = z := ⟨_, rfl⟩
  have HVA := Lib.hid (show wz (fstK p.fns fn + a) = va from hva)
  have HVB := Lib.hid (show wz (fstK p.fns fn + b) = vb from hvb)
  have HVC := Lib.hid (show wz (fstK p.fns fn + c) = vc from hvc)
  generalize fstK p.fns fn = s at *
  go_wp2_with fail
  refine (two_any _ _ _ _ _).mono ?_
  rintro e w3 ⟨rfl, ho3, hg3⟩
  have HO3 := Lib.hid ho3
  have HG3 := Lib.hid (grownBy_trans HG1.out hg3)
  clear ho3 hg3
  go_wp2_with fail
  go_ret
  exact ⟨_, _, [twoK 2 va vb 0], rfl, (fun h => by cases h), StrAt.of_own konC_size HO3.out, .of, by rw [HC.out, HVA.out, HVB.out]; rfl, HG3.out, fun ad h => by injection h with h; subst h; exact HG1.out.size⟩
set_option maxRecDepth 100000 in
set_option maxHeartbeats 16000000 in
theorem rin_7n (hf : StrAt funC 5 w p.fa p.fns) (hs : SmallF p.fns) (hfn : fn < p.fns.length) (h0 : ¬ ww = 1) (h1 : ¬ ww = 8) :
    Calls Tryz.prog 21 #[prgV p, .int .i64 fn, insV ⟨7, a, b, c, ww, n, sign, aa, an, ac, args⟩] w (GenRet w (consI p.fns fn ⟨7, a, b, c, ww, n, sign, aa, an, ac, args⟩)) := by
  have e1 : (ww == 1) = false := by simpa using h0
  have e8 : (ww == 8) = false := by simpa using h1
  have HF := Lib.hid hf
  have HS := Lib.hid hs
  have HFN := Lib.hid hfn
  have HC := Lib.hid (show consI p.fns fn ⟨7, a, b, c, ww, n, sign, aa, an, ac, args⟩ = [] from (if_neg (by omega) : (if ww = 1 ∨ ww = 8 then [twoK 2 (wz (fstK p.fns fn + a)) (wz (fstK p.fns fn + b)) 0] else []) = _))
  clear hf hs h0 h1
  unfold prgV insV prgC insC
  go_enter Tryz.func21, Tryz.ntmps21
  go_wp2_with fail
  refine (show Calls Tryz.prog 19 #[.agg #[.slice p.sa p.sites.length p.sc, .slice p.fa p.fns.length p.fc, .int .i64 p.main], .int .i64 fn] _ _ from First_any p _ (HF.out.keep (CellsK.of (gr_alloc (gr_alloc (grownBy_refl w none) _) _))) HS.out fn (Nat.le_of_lt hfn)).mono ?_
  rintro e w1 ⟨rfl, hg1⟩
  have HG1 := Lib.hid (grownBy_trans (gr_alloc (gr_alloc (grownBy_refl w none) (.cells (prgC p) 25)) (.cells (insC ⟨7, a, b, c, ww, n, sign, aa, an, ac, args⟩) 36)) hg1)
  have HB1 := Lib.hid (show BoxC (prgC p) 25 w.heap.size w1 from ((BoxC.new w (prgC p) 25).gr (gr_alloc (grownBy_refl _ _) _)).gr hg1)
  have HI1 := Lib.hid (show BoxC (insC ⟨7, a, b, c, ww, n, sign, aa, an, ac, args⟩) 36 (w.heap.size + 1) w1 from BoxC.gr (show BoxC (insC ⟨7, a, b, c, ww, n, sign, aa, an, ac, args⟩) 36 (w.heap.size + 1) ((w.alloc (.cells (prgC p) 25)).alloc (.cells (insC ⟨7, a, b, c, ww, n, sign, aa, an, ac, args⟩) 36)) from alloc_at (by simp)) hg1)
  obtain ⟨b0, b1, b2⟩ := boxP HB1.out
  obtain ⟨i0, i1, i2, i3, i4, i5, i6, i7⟩ := boxI HI1.out
  have lb := lt_of_heap HB1.out
  have li := lt_of_heap HI1.out
  clear hg1
  obtain ⟨va, hva⟩ : ∃ z, IntKind.i64.wrap (fstK p.fns fn + a) = z := ⟨_, rfl⟩
  obtain ⟨vb, hvb⟩ : ∃ z, IntKind.i64.wrap (fstK p.fns fn + b) = z := ⟨_, rfl⟩
  obtain ⟨vc, hvc⟩ : ∃ z, IntKind.i64.wrap (fstK p.fns fn + c) = z := ⟨_, rfl⟩
  have HVA := Lib.hid (show wz (fstK p.fns fn + a) = va from hva)
  have HVB := Lib.hid (show wz (fstK p.fns fn + b) = vb from hvb)
  have HVC := Lib.hid (show wz (fstK p.fns fn + c) = vc from hvc)
  generalize fstK p.fns fn = s at *
  go_wp2_with fail
  go_ret
  exact ⟨none, 0, [], rfl, (fun _ => rfl), .inl rfl, .nil _, HC.out.symm, HG1.out, fun _ h => by cases h⟩
set_option maxRecDepth 100000 in
set_option maxHeartbeats 16000000 in
theorem rin_8a (hf : StrAt funC 5 w p.fa p.fns) (hs : SmallF p.fns) (hfn : fn < p.fns.length) (h1 : ww = 1) :
    Calls Tryz.prog 21 #[prgV p, .int .i64 fn, insV ⟨8, a, b, c, ww, n, sign, aa, an, ac, args⟩] w (GenRet w (consI p.fns fn ⟨8, a, b, c, ww, n, sign, aa, an, ac, args⟩)) := by
  have e1 : (ww == 1) = true := by simpa using h1
  have HF := Lib.hid hf
  have HS := Lib.hid hs
  have HFN := Lib.hid hfn
  have HC := Lib.hid (show consI p.fns fn ⟨8, a, b, c, ww, n, sign, aa, an, ac, args⟩ = [twoK 5 (wz (fstK p.fns fn + a)) (wz (fstK p.fns fn + b)) ww] from (if_pos (.inl h1) : (if ww = 1 ∨ ww = 8 then [twoK 5 (wz (fstK p.fns fn + a)) (wz (fstK p.fns fn + b)) ww] else []) = _))
  clear hf hs h1
  unfold prgV insV prgC insC
  go_enter Tryz.func21, Tryz.ntmps21
  go_wp2_with fail
  refine (show Calls Tryz.prog 19 #[.agg #[.slice p.sa p.sites.length p.sc, .slice p.fa p.fns.length p.fc, .int .i64 p.main], .int .i64 fn] _ _ from First_any p _ (HF.out.keep (CellsK.of (gr_alloc (gr_alloc (grownBy_refl w none) _) _))) HS.out fn (Nat.le_of_lt hfn)).mono ?_
  rintro e w1 ⟨rfl, hg1⟩
  have HG1 := Lib.hid (grownBy_trans (gr_alloc (gr_alloc (grownBy_refl w none) (.cells (prgC p) 25)) (.cells (insC ⟨8, a, b, c, ww, n, sign, aa, an, ac, args⟩) 36)) hg1)
  have HB1 := Lib.hid (show BoxC (prgC p) 25 w.heap.size w1 from ((BoxC.new w (prgC p) 25).gr (gr_alloc (grownBy_refl _ _) _)).gr hg1)
  have HI1 := Lib.hid (show BoxC (insC ⟨8, a, b, c, ww, n, sign, aa, an, ac, args⟩) 36 (w.heap.size + 1) w1 from BoxC.gr (show BoxC (insC ⟨8, a, b, c, ww, n, sign, aa, an, ac, args⟩) 36 (w.heap.size + 1) ((w.alloc (.cells (prgC p) 25)).alloc (.cells (insC ⟨8, a, b, c, ww, n, sign, aa, an, ac, args⟩) 36)) from alloc_at (by simp)) hg1)
  obtain ⟨b0, b1, b2⟩ := boxP HB1.out
  obtain ⟨i0, i1, i2, i3, i4, i5, i6, i7⟩ := boxI HI1.out
  have lb := lt_of_heap HB1.out
  have li := lt_of_heap HI1.out
  clear hg1
  obtain ⟨va, hva⟩ : ∃ z, IntKind.i64.wrap (fstK p.fns fn + a) = z := ⟨_, rfl⟩
  obtain ⟨vb, hvb⟩ : ∃ z, IntKind.i64.wrap (fstK p.fns fn + b) = z := ⟨_, rfl⟩
  obtain ⟨vc, hvc⟩ : ∃ z, IntKind.i64.wrap (fstK p.fns fn + c) = z := ⟨_, rfl⟩
  have HVA := Lib.hid (show wz (fstK p.fns fn + a) = va from hva)
  have HVB := Lib.hid (show wz (fstK p.fns fn + b) = vb from hvb)
  have HVC := Lib.hid (show wz (fstK p.fns fn + c) = vc from hvc)
  generalize fstK p.fns fn = s at *
  go_wp2_with fail
  refine (two_any _ _ _ _ _).mono ?_
  rintro e w3 ⟨rfl, ho3, hg3⟩
  have HO3 := Lib.hid ho3
  have HG3 := Lib.hid (grownBy_trans HG1.out hg3)
  clear ho3 hg3
  go_wp2_with fail
  go_ret
  exact ⟨_, _, [twoK 5 va vb ww], rfl, (fun h => by cases h), StrAt.of_own konC_size HO3.out, .of, by rw [HC.out, HVA.out, HVB.out]; rfl, HG3.out, fun ad h => by injection h with h; subst h; exact HG1.out.size⟩
set_option maxRecDepth 100000 in
set_option maxHeartbeats 16000000 in
theorem rin_8b (hf : StrAt funC 5 w p.fa p.fns) (hs : SmallF p.fns) (hfn : fn < p.fns.length) (h0 : ¬ ww = 1) (h1 : ww = 8) :
    Calls Tryz.prog 21 #[prgV p, .int .i64 fn, insV ⟨8, a, b, c, ww, n, sign, aa, an, ac, args⟩] w (GenRet w (consI p.fns fn ⟨8, a, b, c, ww, n, sign, aa, an, ac, args⟩)) := by
  have e1 : (ww == 1) = false := by simpa using h0
  have e8 : (ww == 8) = true := by simpa using h1
  have HF := Lib.hid hf
  have HS := Lib.hid hs
  have HFN := Lib.hid hfn
  have HC := Lib.hid (show consI p.fns fn ⟨8, a, b, c, ww, n, sign, aa, an, ac, args⟩ = [twoK 5 (wz (fstK p.fns fn + a)) (wz (fstK p.fns fn + b)) ww] from (if_pos (.inr h1) : (if ww = 1 ∨ ww = 8 then [twoK 5 (wz (fstK p.fns fn + a)) (wz (fstK p.fns fn + b)) ww] else []) = _))
  clear hf hs h0 h1
  unfold prgV insV prgC insC
  go_enter Tryz.func21, Tryz.ntmps21
  go_wp2_with fail
  refine (show Calls Tryz.prog 19 #[.agg #[.slice p.sa p.sites.length p.sc, .slice p.fa p.fns.length p.fc, .int .i64 p.main], .int .i64 fn] _ _ from First_any p _ (HF.out.keep (CellsK.of (gr_alloc (gr_alloc (grownBy_refl w none) _) _))) HS.out fn (Nat.le_of_lt hfn)).mono ?_
  rintro e w1 ⟨rfl, hg1⟩
  have HG1 := Lib.hid (grownBy_trans (gr_alloc (gr_alloc (grownBy_refl w none) (.cells (prgC p) 25)) (.cells (insC ⟨8, a, b, c, ww, n, sign, aa, an, ac, args⟩) 36)) hg1)
  have HB1 := Lib.hid (show BoxC (prgC p) 25 w.heap.size w1 from ((BoxC.new w (prgC p) 25).gr (gr_alloc (grownBy_refl _ _) _)).gr hg1)
  have HI1 := Lib.hid (show BoxC (insC ⟨8, a, b, c, ww, n, sign, aa, an, ac, args⟩) 36 (w.heap.size + 1) w1 from BoxC.gr (show BoxC (insC ⟨8, a, b, c, ww, n, sign, aa, an, ac, args⟩) 36 (w.heap.size + 1) ((w.alloc (.cells (prgC p) 25)).alloc (.cells (insC ⟨8, a, b, c, ww, n, sign, aa, an, ac, args⟩) 36)) from alloc_at (by simp)) hg1)
  obtain ⟨b0, b1, b2⟩ := boxP HB1.out
  obtain ⟨i0, i1, i2, i3, i4, i5, i6, i7⟩ := boxI HI1.out
  have lb := lt_of_heap HB1.out
  have li := lt_of_heap HI1.out
  clear hg1
  obtain ⟨va, hva⟩ : ∃ z, IntKind.i64.wrap (fstK p.fns fn + a) = z := ⟨_, rfl⟩
  obtain ⟨vb, hvb⟩ : ∃ z, IntKind.i64.wrap (fstK p.fns fn + b) = z := ⟨_, rfl⟩
  obtain ⟨vc, hvc⟩ : ∃ z, IntKind.i64.wrap (fstK p.fns fn + c) = z := ⟨_, rfl⟩
  have HVA := Lib.hid (show wz (fstK p.fns fn + a) = va from hva)
  have HVB := Lib.hid (show wz (fstK p.fns fn + b) = vb from hvb)
  have HVC := Lib.hid (show wz (fstK p.fns fn + c) = vc from hvc)
  generalize fstK p.fns fn = s at *
  go_wp2_with fail
  refine (two_any _ _ _ _ _).mono ?_
  rintro e w3 ⟨rfl, ho3, hg3⟩
  have HO3 := Lib.hid ho3
  have HG3 := Lib.hid (grownBy_trans HG1.out hg3)
  clear ho3 hg3
  go_wp2_with fail
  go_ret
  exact ⟨_, _, [twoK 5 va vb ww], rfl, (fun h => by cases h), StrAt.of_own konC_size HO3.out, .of, by rw [HC.out, HVA.out, HVB.out]; rfl, HG3.out, fun ad h => by injection h with h; subst h; exact HG1.out.size⟩
set_option maxRecDepth 100000 in
set_option maxHeartbeats 16000000 in
theorem rin_8n (hf : StrAt funC 5 w p.fa p.fns) (hs : SmallF p.fns) (hfn : fn < p.fns.length) (h0 : ¬ ww = 1) (h1 : ¬ ww = 8) :
    Calls Tryz.prog 21 #[prgV p, .int .i64 fn, insV ⟨8, a, b, c, ww, n, sign, aa, an, ac, args⟩] w (GenRet w (consI p.fns fn ⟨8, a, b, c, ww, n, sign, aa, an, ac, args⟩)) := by
  have e1 : (ww == 1) = false := by simpa using h0
  have e8 : (ww == 8) = false := by simpa using h1
  have HF := Lib.hid hf
  have HS := Lib.hid hs
  have HFN := Lib.hid hfn
  have HC := Lib.hid (show consI p.fns fn ⟨8, a, b, c, ww, n, sign, aa, an, ac, args⟩ = [] from (if_neg (by omega) : (if ww = 1 ∨ ww = 8 then [twoK 5 (wz (fstK p.fns fn + a)) (wz (fstK p.fns fn + b)) ww] else []) = _))
  clear hf hs h0 h1
  unfold prgV insV prgC insC
  go_enter Tryz.func21, Tryz.ntmps21
  go_wp2_with fail
  refine (show Calls Tryz.prog 19 #[.agg #[.slice p.sa p.sites.length p.sc, .slice p.fa p.fns.length p.fc, .int .i64 p.main], .int .i64 fn] _ _ from First_any p _ (HF.out.keep (CellsK.of (gr_alloc (gr_alloc (grownBy_refl w none) _) _))) HS.out fn (Nat.le_of_lt hfn)).mono ?_
  rintro e w1 ⟨rfl, hg1⟩
  have HG1 := Lib.hid (grownBy_trans (gr_alloc (gr_alloc (grownBy_refl w none) (.cells (prgC p) 25)) (.cells (insC ⟨8, a, b, c, ww, n, sign, aa, an, ac, args⟩) 36)) hg1)
  have HB1 := Lib.hid (show BoxC (prgC p) 25 w.heap.size w1 from ((BoxC.new w (prgC p) 25).gr (gr_alloc (grownBy_refl _ _) _)).gr hg1)
  have HI1 := Lib.hid (show BoxC (insC ⟨8, a, b, c, ww, n, sign, aa, an, ac, args⟩) 36 (w.heap.size + 1) w1 from BoxC.gr (show BoxC (insC ⟨8, a, b, c, ww, n, sign, aa, an, ac, args⟩) 36 (w.heap.size + 1) ((w.alloc (.cells (prgC p) 25)).alloc (.cells (insC ⟨8, a, b, c, ww, n, sign, aa, an, ac, args⟩) 36)) from alloc_at (by simp)) hg1)
  obtain ⟨b0, b1, b2⟩ := boxP HB1.out
  obtain ⟨i0, i1, i2, i3, i4, i5, i6, i7⟩ := boxI HI1.out
  have lb := lt_of_heap HB1.out
  have li := lt_of_heap HI1.out
  clear hg1
  obtain ⟨va, hva⟩ : ∃ z, IntKind.i64.wrap (fstK p.fns fn + a) = z := ⟨_, rfl⟩
  obtain ⟨vb, hvb⟩ : ∃ z, IntKind.i64.wrap (fstK p.fns fn + b) = z := ⟨_, rfl⟩
  obtain ⟨vc, hvc⟩ : ∃ z, IntKind.i64.wrap (fstK p.fns fn + c) = z := ⟨_, rfl⟩
  have HVA := Lib.hid (show wz (fstK p.fns fn + a) = va from hva)
  have HVB := Lib.hid (show wz (fstK p.fns fn + b) = vb from hvb)
  have HVC := Lib.hid (show wz (fstK p.fns fn + c) = vc from hvc)
  generalize fstK p.fns fn = s at *
  go_wp2_with fail
  go_ret
  exact ⟨none, 0, [], rfl, (fun _ => rfl), .inl rfl, .nil _, HC.out.symm, HG1.out, fun _ h => by cases h⟩
set_option maxRecDepth 100000 in
set_option maxHeartbeats 16000000 in
theorem rin_9a (hf : StrAt funC 5 w p.fa p.fns) (hs : SmallF p.fns) (hfn : fn < p.fns.length) (h1 : ww = 1) :
    Calls Tryz.prog 21 #[prgV p, .int .i64 fn, insV ⟨9, a, b, c, ww, n, sign, aa, an, ac, args⟩] w (GenRet w (consI p.fns fn ⟨9, a, b, c, ww, n, sign, aa, an, ac, args⟩)) := by
  have e1 : (ww == 1) = true := by simpa using h1
  have HF := Lib.hid hf
  have HS := Lib.hid hs
  have HFN := Lib.hid hfn
  have HC := Lib.hid (show consI p.fns fn ⟨9, a, b, c, ww, n, sign, aa, an, ac, args⟩ = [twoK 6 (wz (fstK p.fns fn + a)) (wz (fstK p.fns fn + b)) ww] from (if_pos (.inl h1) : (if ww = 1 ∨ ww = 8 then [twoK 6 (wz (fstK p.fns fn + a)) (wz (fstK p.fns fn + b)) ww] else []) = _))
  clear hf hs h1
  unfold prgV insV prgC insC
  go_enter Tryz.func21, Tryz.ntmps21
  go_wp2_with fail
  refine (show Calls Tryz.prog 19 #[.agg #[.slice p.sa p.sites.length p.sc, .slice p.fa p.fns.length p.fc, .int .i64 p.main], .int .i64 fn] _ _ from First_any p _ (HF.out.keep (CellsK.of (gr_alloc (gr_alloc (grownBy_refl w none) _) _))) HS.out fn (Nat.le_of_lt hfn)).mono ?_
  rintro e w1 ⟨rfl, hg1⟩
  have HG1 := Lib.hid (grownBy_trans (gr_alloc (gr_alloc (grownBy_refl w none) (.cells (prgC p) 25)) (.cells (insC ⟨9, a, b, c, ww, n, sign, aa, an, ac, args⟩) 36)) hg1)
  have HB1 := Lib.hid (show BoxC (prgC p) 25 w.heap.size w1 from ((BoxC.new w (prgC p) 25).gr (gr_alloc (grownBy_refl _ _) _)).gr hg1)
  have HI1 := Lib.hid (show BoxC (insC ⟨9, a, b, c, ww, n, sign, aa, an, ac, args⟩) 36 (w.heap.size + 1) w1 from BoxC.gr (show BoxC (insC ⟨9, a, b, c, ww, n, sign, aa, an, ac, args⟩) 36 (w.heap.size + 1) ((w.alloc (.cells (prgC p) 25)).alloc (.cells (insC ⟨9, a, b, c, ww, n, sign, aa, an, ac, args⟩) 36)) from alloc_at (by simp)) hg1)
  obtain ⟨b0, b1, b2⟩ := boxP HB1.out
  obtain ⟨i0, i1, i2, i3, i4, i5, i6, i7⟩ := boxI HI1.out
  have lb := lt_of_heap HB1.out
  have li := lt_of_heap HI1.out
  clear hg1
  obtain ⟨va, hva⟩ : ∃ z, IntKind.i64.wrap (fstK p.fns fn + a) = z := ⟨_, rfl⟩
  obtain ⟨vb, hvb⟩ : ∃ z, IntKind.i64.wrap (fstK p.fns fn + b) = z := ⟨_, rfl⟩
  obtain ⟨vc, hvc⟩ : ∃ z, IntKind.i64.wrap (fstK p.fns fn + c) = z := ⟨_, rfl⟩
  have HVA := Lib.hid (show wz (fstK p.fns fn + a) = va from hva)
  have HVB := Lib.hid (show wz (fstK p.fns fn + b) = vb from hvb)
  have HVC := Lib.hid (show wz (fstK p.fns fn + c) = vc from hvc)
  generalize fstK p.fns fn = s at *
  go_wp2_with fail
  refine (two_any _ _ _ _ _).mono ?_
  rintro e w3 ⟨rfl, ho3, hg3⟩
  have HO3 := Lib.hid ho3
  have HG3 := Lib.hid (grownBy_trans HG1.out hg3)
  clear ho3 hg3
  go_wp2_with fail
  go_ret
  exact ⟨_, _, [twoK 6 va vb ww], rfl, (fun h => by cases h), StrAt.of_own konC_size HO3.out, .of, by rw [HC.out, HVA.out, HVB.out]; rfl, HG3.out, fun ad h => by injection h with h; subst h; exact HG1.out.size⟩
set_option maxRecDepth 100000 in
set_option maxHeartbeats 16000000 in
theorem rin_9b (hf : StrAt funC 5 w p.fa p.fns) (hs : SmallF p.fns) (hfn : fn < p.fns.length) (h0 : ¬ ww = 1) (h1 : ww = 8) :
    Calls Tryz.prog 21 #[prgV p, .int .i64 fn, insV ⟨9, a, b, c, ww, n, sign, aa, an, ac, args⟩] w (GenRet w (consI p.fns fn ⟨9, a, b, c, ww, n, sign, aa, an, ac, args⟩)) := by
  have e1 : (ww == 1) = false := by simpa using h0
  have e8 : (ww == 8) = true := by simpa using h1
  have HF := Lib.hid hf
  have HS := Lib.hid hs
  have HFN := Lib.hid hfn
  have HC := Lib.hid (show consI p.fns fn ⟨9, a, b, c, ww, n, sign, aa, an, ac, args⟩ = [twoK 6 (wz (fstK p.fns fn + a)) (wz (fstK p.fns fn + b)) ww] from (if_pos (.inr h1) : (if ww = 1 ∨ ww = 8 then [twoK 6 (wz (fstK p.fns fn + a)) (wz (fstK p.fns fn + b)) ww] else []) = _))
  clear hf hs h0 h1
  unfold prgV insV prgC insC
  go_enter Tryz.func21, Tryz.ntmps21
  go_wp2_with fail
  refine (show Calls Tryz.prog 19 #[.agg #[.slice p.sa p.sites.length p.sc, .slice p.fa p.fns.length p.fc, .int .i64 p.main], .int .i64 fn] _ _ from First_any p _ (HF.out.keep (CellsK.of (gr_alloc (gr_alloc (grownBy_refl w none) _) _))) HS.out fn (Nat.le_of_lt hfn)).mono ?_
  rintro e w1 ⟨rfl, hg1⟩
  have HG1 := Lib.hid (grownBy_trans (gr_alloc (gr_alloc (grownBy_refl w none) (.cells (prgC p) 25)) (.cells (insC ⟨9, a, b, c, ww, n, sign, aa, an, ac, args⟩) 36)) hg1)
  have HB1 := Lib.hid (show BoxC (prgC p) 25 w.heap.size w1 from ((BoxC.new w (prgC p) 25).gr (gr_alloc (grownBy_refl _ _) _)).gr hg1)
  have HI1 := Lib.hid (show BoxC (insC ⟨9, a, b, c, ww, n, sign, aa, an, ac, args⟩) 36 (w.heap.size + 1) w1 from BoxC.gr (show BoxC (insC ⟨9, a, b, c, ww, n, sign, aa, an, ac, args⟩) 36 (w.heap.size + 1) ((w.alloc (.cells (prgC p) 25)).alloc (.cells (insC ⟨9, a, b, c, ww, n, sign, aa, an, ac, args⟩) 36)) from alloc_at (by simp)) hg1)
  obtain ⟨b0, b1, b2⟩ := boxP HB1.out
  obtain ⟨i0, i1, i2, i3, i4, i5, i6, i7⟩ := boxI HI1.out
  have lb := lt_of_heap HB1.out
  have li := lt_of_heap HI1.out
  clear hg1
  obtain ⟨va, hva⟩ : ∃ z, IntKind.i64.wrap (fstK p.fns fn + a) = z := ⟨_, rfl⟩
  obtain ⟨vb, hvb⟩ : ∃ z, IntKind.i64.wrap (fstK p.fns fn + b) = z := ⟨_, rfl⟩
  obtain ⟨vc, hvc⟩ : ∃ z, IntKind.i64.wrap (fstK p.fns fn + c) = z := ⟨_, rfl⟩
  have HVA := Lib.hid (show wz (fstK p.fns fn + a) = va from hva)
  have HVB := Lib.hid (show wz (fstK p.fns fn + b) = vb from hvb)
  have HVC := Lib.hid (show wz (fstK p.fns fn + c) = vc from hvc)
  generalize fstK p.fns fn = s at *
  go_wp2_with fail
  refine (two_any _ _ _ _ _).mono ?_
  rintro e w3 ⟨rfl, ho3, hg3⟩
  have HO3 := Lib.hid ho3
  have HG3 := Lib.hid (grownBy_trans HG1.out hg3)
  clear ho3 hg3
  go_wp2_with fail
  go_ret
  exact ⟨_, _, [twoK 6 va vb ww], rfl, (fun h => by cases h), StrAt.of_own konC_size HO3.out, .of, by rw [HC.out, HVA.out, HVB.out]; rfl, HG3.out, fun ad h => by injection h with h; subst h; exact HG1.out.size⟩
set_option maxRecDepth 100000 in
set_option maxHeartbeats 16000000 in
theorem rin_9n (hf : StrAt funC 5 w p.fa p.fns) (hs : SmallF p.fns) (hfn : fn < p.fns.length) (h0 : ¬ ww = 1) (h1 : ¬ ww = 8) :
    Calls Tryz.prog 21 #[prgV p, .int .i64 fn, insV ⟨9, a, b, c, ww, n, sign, aa, an, ac, args⟩] w (GenRet w (consI p.fns fn ⟨9, a, b, c, ww, n, sign, aa, an, ac, args⟩)) := by
  have e1 : (ww == 1) = false := by simpa using h0
  have e8 : (ww == 8) = false := by simpa using h1
  have HF := Lib.hid hf
  have HS := Lib.hid hs
  have HFN := Lib.hid hfn
  have HC := Lib.hid (show consI p.fns fn ⟨9, a, b, c, ww, n, sign, aa, an, ac, args⟩ = [] from (if_neg (by omega) : (if ww = 1 ∨ ww = 8 then [twoK 6 (wz (fstK p.fns fn + a)) (wz (fstK p.fns fn + b)) ww] else []) = _))
  clear hf hs h0 h1
  unfold prgV insV prgC insC
  go_enter Tryz.func21, Tryz.ntmps21
  go_wp2_with fail
  refine (show Calls Tryz.prog 19 #[.agg #[.slice p.sa p.sites.length p.sc, .slice p.fa p.fns.length p.fc, .int .i64 p.main], .int .i64 fn] _ _ from First_any p _ (HF.out.keep (CellsK.of (gr_alloc (gr_alloc (grownBy_refl w none) _) _))) HS.out fn (Nat.le_of_lt hfn)).mono ?_
  rintro e w1 ⟨rfl, hg1⟩
  have HG1 := Lib.hid (grownBy_trans (gr_alloc (gr_alloc (grownBy_refl w none) (.cells (prgC p) 25)) (.cells (insC ⟨9, a, b, c, ww, n, sign, aa, an, ac, args⟩) 36)) hg1)
  have HB1 := Lib.hid (show BoxC (prgC p) 25 w.heap.size w1 from ((BoxC.new w (prgC p) 25).gr (gr_alloc (grownBy_refl _ _) _)).gr hg1)
  have HI1 := Lib.hid (show BoxC (insC ⟨9, a, b, c, ww, n, sign, aa, an, ac, args⟩) 36 (w.heap.size + 1) w1 from BoxC.gr (show BoxC (insC ⟨9, a, b, c, ww, n, sign, aa, an, ac, args⟩) 36 (w.heap.size + 1) ((w.alloc (.cells (prgC p) 25)).alloc (.cells (insC ⟨9, a, b, c, ww, n, sign, aa, an, ac, args⟩) 36)) from alloc_at (by simp)) hg1)
  obtain ⟨b0, b1, b2⟩ := boxP HB1.out
  obtain ⟨i0, i1, i2, i3, i4, i5, i6, i7⟩ := boxI HI1.out
  have lb := lt_of_heap HB1.out
  have li := lt_of_heap HI1.out
  clear hg1
  obtain ⟨va, hva⟩ : ∃ z, IntKind.i64.wrap (fstK p.fns fn + a) = z := ⟨_, rfl⟩
  obtain ⟨vb, hvb⟩ : ∃ z, IntKind.i64.wrap (fstK p.fns fn + b) = z := ⟨_, rfl⟩
  obtain ⟨vc, hvc⟩ : ∃ z, IntKind.i64.wrap (fstK p.fns fn + c) = z := ⟨_, rfl⟩
  have HVA := Lib.hid (show wz (fstK p.fns fn + a) = va from hva)
  have HVB := Lib.hid (show wz (fstK p.fns fn + b) = vb from hvb)
  have HVC := Lib.hid (show wz (fstK p.fns fn + c) = vc from hvc)
  generalize fstK p.fns fn = s at *
  go_wp2_with fail
  go_ret
  exact ⟨none, 0, [], rfl, (fun _ => rfl), .inl rfl, .nil _, HC.out.symm, HG1.out, fun _ h => by cases h⟩
end

end Go.Proofs.YtajmkdbokdjmeaaGreat
/- The document: Insn: sums of two. -/
namespace Go.Proofs.YtajmkdbokdjmeaaGreat
open Go.RowKit
section
variable {p : Prg} {fn : Nat} {w : World} (a b c ww n : Int) (sign : ByteArray) (aa : Option Addr) (an ac : Nat) (args : List Int)
set_option maxRecDepth 100000 in
set_option maxHeartbeats 16000000 in
theorem rin_5p (hf : StrAt funC 5 w p.fa p.fns) (hs : SmallF p.fns) (hfn : fn < p.fns.length) (h1 : sign.toList = [43]) :
    Calls Tryz.prog 21 #[prgV p, .int .i64 fn, insV ⟨5, a, b, c, ww, n, sign, aa, an, ac, args⟩] w (GenRet w (consI p.fns fn ⟨5, a, b, c, ww, n, sign, aa, an, ac, args⟩)) := by
  have d1 : (sign.toList == [43]) = true := by simpa using h1
  have HF := Lib.hid hf
  have HS := Lib.hid hs
  have HFN := Lib.hid hfn
  have HC := Lib.hid (show consI p.fns fn ⟨5, a, b, c, ww, n, sign, aa, an, ac, args⟩ = [twoK 4 (wz (fstK p.fns fn + a)) (wz (fstK p.fns fn + b)) 1, twoK 4 (wz (fstK p.fns fn + a)) (wz (fstK p.fns fn + c)) 1] from (if_pos h1 : (if sign.toList = [43] then [twoK 4 (wz (fstK p.fns fn + a)) (wz (fstK p.fns fn + b)) 1, twoK 4 (wz (fstK p.fns fn + a)) (wz (fstK p.fns fn + c)) 1] else if sign.toList = [45] then [twoK 4 (wz (fstK p.fns fn + a)) (wz (fstK p.fns fn + b)) 1] else []) = _))
  have hww : ((ww == 1) = true) ∨ ((ww == 1) = false ∧ (ww == 8) = true) ∨ ((ww == 1) = false ∧ (ww == 8) = false) := by
    cases (ww == 1) <;> cases (ww == 8) <;> simp
  clear hf hs h1
  unfold prgV insV prgC insC
  go_enter Tryz.func21, Tryz.ntmps21
  go_wp2_with fail
  refine (show Calls Tryz.prog 19 #[.agg #[.slice p.sa p.sites.length p.sc, .slice p.fa p.fns.length p.fc, .int .i64 p.main], .int .i64 fn] _ _ from First_any p _ (HF.out.keep (CellsK.of (gr_alloc (gr_alloc (grownBy_refl w none) _) _))) HS.out fn (Nat.le_of_lt hfn)).mono ?_
  rintro e w1 ⟨rfl, hg1⟩
  have HG1 := Lib.hid (grownBy_trans (gr_alloc (gr_alloc (grownBy_refl w none) (.cells (prgC p) 25)) (.cells (insC ⟨5, a, b, c, ww, n, sign, aa, an, ac, args⟩) 36)) hg1)
  have HB1 := Lib.hid (show BoxC (prgC p) 25 w.heap.size w1 from ((BoxC.new w (prgC p) 25).gr (gr_alloc (grownBy_refl _ _) _)).gr hg1)
  have HI1 := Lib.hid (show BoxC (insC ⟨5, a, b, c, ww, n, sign, aa, an, ac, args⟩) 36 (w.heap.size + 1) w1 from BoxC.gr (show BoxC (insC ⟨5, a, b, c, ww, n, sign, aa, an, ac, args⟩) 36 (w.heap.size + 1) ((w.alloc (.cells (prgC p) 25)).alloc (.cells (insC ⟨5, a, b, c, ww, n, sign, aa, an, ac, args⟩) 36)) from alloc_at (by simp)) hg1)
  obtain ⟨b0, b1, b2⟩ := boxP HB1.out
  obtain ⟨i0, i1, i2, i3, i4, i5, i6, i7⟩ := boxI HI1.out
  have lb := lt_of_heap HB1.out
  have li := lt_of_heap HI1.out
  clear hg1
  obtain ⟨va, hva⟩ : ∃ z, IntKind.i64.wrap (fstK p.fns fn + a) = z := ⟨_, rfl⟩
  obtain ⟨vb, hvb⟩ : ∃ z, IntKind.i64.wrap (fstK p.fns fn + b) = z := ⟨_, rfl⟩
  obtain ⟨vc, hvc⟩ : ∃ z, IntKind.i64.wrap (fstK p.fns fn + c) = z := ⟨_, rfl⟩
  have HVA := Lib.hid (show wz (fstK p.fns fn + a) = va from hva)
  have HVB := Lib.hid (show wz (fstK p.fns fn + b) = vb from hvb)
  have HVC := Lib.hid (show wz (fstK p.fns fn + c) = vc from hvc)
  generalize fstK p.fns fn = s at *
  rcases hww with e1 | ⟨e1, e8⟩ | ⟨e1, e8⟩
  all_goals
    go_wp2_with fail
    refine (two_any _ _ _ _ _).mono ?_
    rintro e w3 ⟨rfl, ho3, hg3⟩
    have HO3 := Lib.hid ho3
    have HG3 := Lib.hid hg3
    clear ho3 hg3
    go_wp2_with fail
    refine (two_any _ _ _ _ _).mono ?_
    rintro e w4 ⟨rfl, ho4, hg4⟩
    have HO4 := Lib.hid (StrAt.of_own konC_size (l := [twoK 4 va vc 1]) ho4)
    have HO34 := Lib.hid (HO3.out.gr hg4)
    have HG4 := Lib.hid (grownBy_trans HG3.out hg4)
    have HL := Lib.hid (lt_of_heap (show BoxC _ _ _ _ from HB1.out.gr HG4.out))
    clear ho4 hg4
    go_wp2_with (at_builtin; go_must (refine app_kons rfl (.tmp 94) (.tmp 97) rfl w1.heap.size (.slice (some ⟨w1.heap.size, 0, none⟩) 1 1) [twoK 4 va vb 1] [twoK 4 va vc 1] rfl HO34.out (some ⟨w3.heap.size, 0, none⟩) 1 1 rfl rfl HO4.out (fun h => by cases h) (by simp) HG4.out.size ?_; intro v5 w5 ho5 hg5; obtain ⟨A5, c5, hv5, _⟩ := ho5.out.at_; subst hv5))
    go_ret
    obtain ⟨A6, c6, hv6, h6, h7⟩ := ho5.out.at_
    injection hv6 with hv1 hv2 hv3
    subst hv1 hv3
    exact ⟨_, _, _, rfl, h6, h7, (KArgs.of).app .of, by rw [HC.out, HVA.out, HVB.out, HVC.out]; rfl, gr_own (grownBy_trans HG1.out HG4.out) hg5.out (fun k hk => by injection hk with hk; have : w1.heap.size = k := hk; have := HG1.out.size; omega), fun ad h => Nat.le_trans HG1.out.size (OwR.fresh ho5.out ad h)⟩
set_option maxRecDepth 100000 in
set_option maxHeartbeats 16000000 in
theorem rin_5m (hf : StrAt funC 5 w p.fa p.fns) (hs : SmallF p.fns) (hfn : fn < p.fns.length) (h1 : ¬ sign.toList = [43]) (h2 : sign.toList = [45]) :
    Calls Tryz.prog 21 #[prgV p, .int .i64 fn, insV ⟨5, a, b, c, ww, n, sign, aa, an, ac, args⟩] w (GenRet w (consI p.fns fn ⟨5, a, b, c, ww, n, sign, aa, an, ac, args⟩)) := by
  have d1 : (sign.toList == [43]) = false := by simpa using h1
  have d2 : (sign.toList == [45]) = true := by simpa using h2
  have HF := Lib.hid hf
  have HS := Lib.hid hs
  have HFN := Lib.hid hfn
  have HC := Lib.hid (show consI p.fns fn ⟨5, a, b, c, ww, n, sign, aa, an, ac, args⟩ = [twoK 4 (wz (fstK p.fns fn + a)) (wz (fstK p.fns fn + b)) 1] from ((if_neg h1).trans (if_pos h2) : (if sign.toList = [43] then [twoK 4 (wz (fstK p.fns fn + a)) (wz (fstK p.fns fn + b)) 1, twoK 4 (wz (fstK p.fns fn + a)) (wz (fstK p.fns fn + c)) 1] else if sign.toList = [45] then [twoK 4 (wz (fstK p.fns fn + a)) (wz (fstK p.fns fn + b)) 1] else []) = _))
  have hww : ((ww == 1) = true) ∨ ((ww == 1) = false ∧ (ww == 8) = true) ∨ ((ww == 1) = false ∧ (ww == 8) = false) := by
    cases (ww == 1) <;> cases (ww == 8) <;> simp
  clear hf hs h1 h2
  unfold prgV insV prgC insC
  go_enter Tryz.func21, Tryz.ntmps21
  go_wp2_with fail
  refine (show Calls Tryz.prog 19 #[.agg #[.slice p.sa p.sites.length p.sc, .slice p.fa p.fns.length p.fc, .int .i64 p.main], .int .i64 fn] _ _ from First_any p _ (HF.out.keep (CellsK.of (gr_alloc (gr_alloc (grownBy_refl w none) _) _))) HS.out fn (Nat.le_of_lt hfn)).mono ?_
  rintro e w1 ⟨rfl, hg1⟩
  have HG1 := Lib.hid (grownBy_trans (gr_alloc (gr_alloc (grownBy_refl w none) (.cells (prgC p) 25)) (.cells (insC ⟨5, a, b, c, ww, n, sign, aa, an, ac, args⟩) 36)) hg1)
  have HB1 := Lib.hid (show BoxC (prgC p) 25 w.heap.size w1 from ((BoxC.new w (prgC p) 25).gr (gr_alloc (grownBy_refl _ _) _)).gr hg1)
  have HI1 := Lib.hid (show BoxC (insC ⟨5, a, b, c, ww, n, sign, aa, an, ac, args⟩) 36 (w.heap.size + 1) w1 from BoxC.gr (show BoxC (insC ⟨5, a, b, c, ww, n, sign, aa, an, ac, args⟩) 36 (w.heap.size + 1) ((w.alloc (.cells (prgC p) 25)).alloc (.cells (insC ⟨5, a, b, c, ww, n, sign, aa, an, ac, args⟩) 36)) from alloc_at (by simp)) hg1)
  obtain ⟨b0, b1, b2⟩ := boxP HB1.out
  obtain ⟨i0, i1, i2, i3, i4, i5, i6, i7⟩ := boxI HI1.out
  have lb := lt_of_heap HB1.out
  have li := lt_of_heap HI1.out
  clear hg1
  obtain ⟨va, hva⟩ : ∃ z, IntKind.i64.wrap (fstK p.fns fn + a) = z := ⟨_, rfl⟩
  obtain ⟨vb, hvb⟩ : ∃ z, IntKind.i64.wrap (fstK p.fns fn + b) = z := ⟨_, rfl⟩
  obtain ⟨vc, hvc⟩ : ∃ z, IntKind.i64.wrap (fstK p.fns fn + c) = z := ⟨_, rfl⟩
  have HVA := Lib.hid (show wz (fstK p.fns fn + a) = va from hva)
  have HVB := Lib.hid (show wz (fstK p.fns fn + b) = vb from hvb)
  have HVC := Lib.hid (show wz (fstK p.fns fn + c) = vc from hvc)
  generalize fstK p.fns fn = s at *
  rcases hww with e1 | ⟨e1, e8⟩ | ⟨e1, e8⟩
  all_goals
    go_wp2_with fail
    refine (two_any _ _ _ _ _).mono ?_
    rintro e w3 ⟨rfl, ho3, hg3⟩
    have HO3 := Lib.hid ho3
    have HG3 := Lib.hid (grownBy_trans HG1.out hg3)
    clear ho3 hg3
    go_wp2_with fail
    go_ret
    exact ⟨_, _, [twoK 4 va vb 1], rfl, (fun h => by cases h), StrAt.of_own konC_size HO3.out, .of, by rw [HC.out, HVA.out, HVB.out]; rfl, HG3.out, fun ad h => by injection h with h; subst h; exact HG1.out.size⟩
set_option maxRecDepth 100000 in
set_option maxHeartbeats 16000000 in
theorem rin_5n (hf : StrAt funC 5 w p.fa p.fns) (hs : SmallF p.fns) (hfn : fn < p.fns.length) (h1 : ¬ sign.toList = [43]) (h2 : ¬ sign.toList = [45]) :
    Calls Tryz.prog 21 #[prgV p, .int .i64 fn, insV ⟨5, a, b, c, ww, n, sign, aa, an, ac, args⟩] w (GenRet w (consI p.fns fn ⟨5, a, b, c, ww, n, sign, aa, an, ac, args⟩)) := by
  have d1 : (sign.toList == [43]) = false := by simpa using h1
  have d2 : (sign.toList == [45]) = false := by simpa using h2
  have HF := Lib.hid hf
  have HS := Lib.hid hs
  have HFN := Lib.hid hfn
  have HC := Lib.hid (show consI p.fns fn ⟨5, a, b, c, ww, n, sign, aa, an, ac, args⟩ = [] from ((if_neg h1).trans (if_neg h2) : (if sign.toList = [43] then [twoK 4 (wz (fstK p.fns fn + a)) (wz (fstK p.fns fn + b)) 1, twoK 4 (wz (fstK p.fns fn + a)) (wz (fstK p.fns fn + c)) 1] else if sign.toList = [45] then [twoK 4 (wz (fstK p.fns fn + a)) (wz (fstK p.fns fn + b)) 1] else []) = _))
  have hww : ((ww == 1) = true) ∨ ((ww == 1) = false ∧ (ww == 8) = true) ∨ ((ww == 1) = false ∧ (ww == 8) = false) := by
    cases (ww == 1) <;> cases (ww == 8) <;> simp
  clear hf hs h1 h2
  unfold prgV insV prgC insC
  go_enter Tryz.func21, Tryz.ntmps21
  go_wp2_with fail
  refine (show Calls Tryz.prog 19 #[.agg #[.slice p.sa p.sites.length p.sc, .slice p.fa p.fns.length p.fc, .int .i64 p.main], .int .i64 fn] _ _ from First_any p _ (HF.out.keep (CellsK.of (gr_alloc (gr_alloc (grownBy_refl w none) _) _))) HS.out fn (Nat.le_of_lt hfn)).mono ?_
  rintro e w1 ⟨rfl, hg1⟩
  have HG1 := Lib.hid (grownBy_trans (gr_alloc (gr_alloc (grownBy_refl w none) (.cells (prgC p) 25)) (.cells (insC ⟨5, a, b, c, ww, n, sign, aa, an, ac, args⟩) 36)) hg1)
  have HB1 := Lib.hid (show BoxC (prgC p) 25 w.heap.size w1 from ((BoxC.new w (prgC p) 25).gr (gr_alloc (grownBy_refl _ _) _)).gr hg1)
  have HI1 := Lib.hid (show BoxC (insC ⟨5, a, b, c, ww, n, sign, aa, an, ac, args⟩) 36 (w.heap.size + 1) w1 from BoxC.gr (show BoxC (insC ⟨5, a, b, c, ww, n, sign, aa, an, ac, args⟩) 36 (w.heap.size + 1) ((w.alloc (.cells (prgC p) 25)).alloc (.cells (insC ⟨5, a, b, c, ww, n, sign, aa, an, ac, args⟩) 36)) from alloc_at (by simp)) hg1)
  obtain ⟨b0, b1, b2⟩ := boxP HB1.out
  obtain ⟨i0, i1, i2, i3, i4, i5, i6, i7⟩ := boxI HI1.out
  have lb := lt_of_heap HB1.out
  have li := lt_of_heap HI1.out
  clear hg1
  obtain ⟨va, hva⟩ : ∃ z, IntKind.i64.wrap (fstK p.fns fn + a) = z := ⟨_, rfl⟩
  obtain ⟨vb, hvb⟩ : ∃ z, IntKind.i64.wrap (fstK p.fns fn + b) = z := ⟨_, rfl⟩
  obtain ⟨vc, hvc⟩ : ∃ z, IntKind.i64.wrap (fstK p.fns fn + c) = z := ⟨_, rfl⟩
  have HVA := Lib.hid (show wz (fstK p.fns fn + a) = va from hva)
  have HVB := Lib.hid (show wz (fstK p.fns fn + b) = vb from hvb)
  have HVC := Lib.hid (show wz (fstK p.fns fn + c) = vc from hvc)
  generalize fstK p.fns fn = s at *
  rcases hww with e1 | ⟨e1, e8⟩ | ⟨e1, e8⟩
  all_goals
    go_wp2_with fail
    go_ret
    exact ⟨none, 0, [], rfl, (fun _ => rfl), .inl rfl, .nil _, HC.out.symm, HG1.out, fun _ h => by cases h⟩
end

end Go.Proofs.YtajmkdbokdjmeaaGreat
/- The document: Insn: returns, and all others. -/
namespace Go.Proofs.YtajmkdbokdjmeaaGreat
open Go.RowKit
section
variable {p : Prg} {fn : Nat} {w : World} (a b c ww n : Int) (sign : ByteArray) (aa : Option Addr) (an ac : Nat) (args : List Int)
set_option maxRecDepth 100000 in
set_option maxHeartbeats 16000000 in
theorem rin_19y (hf : StrAt funC 5 w p.fa p.fns) (hs : SmallF p.fns) (hfn : fn < p.fns.length) (h1 : 0 ≤ a) :
    Calls Tryz.prog 21 #[prgV p, .int .i64 fn, insV ⟨19, a, b, c, ww, n, sign, aa, an, ac, args⟩] w (GenRet w (consI p.fns fn ⟨19, a, b, c, ww, n, sign, aa, an, ac, args⟩)) := by
  have d1 : decide (0 ≤ a) = true := by simp; omega
  have HF := Lib.hid hf
  have HS := Lib.hid hs
  have HFN := Lib.hid hfn
  have HC := Lib.hid (show consI p.fns fn ⟨19, a, b, c, ww, n, sign, aa, an, ac, args⟩ = [twoK 2 (tellK p.fns fn) (wz (fstK p.fns fn + a)) 0] from (if_neg (by omega) : (if a = -1 then [] else [twoK 2 (tellK p.fns fn) (wz (fstK p.fns fn + a)) 0]) = _))
  have hww : ((ww == 1) = true) ∨ ((ww == 1) = false ∧ (ww == 8) = true) ∨ ((ww == 1) = false ∧ (ww == 8) = false) := by
    cases (ww == 1) <;> cases (ww == 8) <;> simp
  clear hf hs h1
  unfold prgV insV prgC insC
  go_enter Tryz.func21, Tryz.ntmps21
  go_wp2_with fail
  refine (show Calls Tryz.prog 19 #[.agg #[.slice p.sa p.sites.length p.sc, .slice p.fa p.fns.length p.fc, .int .i64 p.main], .int .i64 fn] _ _ from First_any p _ (HF.out.keep (CellsK.of (gr_alloc (gr_alloc (grownBy_refl w none) _) _))) HS.out fn (Nat.le_of_lt hfn)).mono ?_
  rintro e w1 ⟨rfl, hg1⟩
  have HG1 := Lib.hid (grownBy_trans (gr_alloc (gr_alloc (grownBy_refl w none) (.cells (prgC p) 25)) (.cells (insC ⟨19, a, b, c, ww, n, sign, aa, an, ac, args⟩) 36)) hg1)
  have HB1 := Lib.hid (show BoxC (prgC p) 25 w.heap.size w1 from ((BoxC.new w (prgC p) 25).gr (gr_alloc (grownBy_refl _ _) _)).gr hg1)
  have HI1 := Lib.hid (show BoxC (insC ⟨19, a, b, c, ww, n, sign, aa, an, ac, args⟩) 36 (w.heap.size + 1) w1 from BoxC.gr (show BoxC (insC ⟨19, a, b, c, ww, n, sign, aa, an, ac, args⟩) 36 (w.heap.size + 1) ((w.alloc (.cells (prgC p) 25)).alloc (.cells (insC ⟨19, a, b, c, ww, n, sign, aa, an, ac, args⟩) 36)) from alloc_at (by simp)) hg1)
  obtain ⟨b0, b1, b2⟩ := boxP HB1.out
  obtain ⟨i0, i1, i2, i3, i4, i5, i6, i7⟩ := boxI HI1.out
  have lb := lt_of_heap HB1.out
  have li := lt_of_heap HI1.out
  clear hg1
  obtain ⟨va, hva⟩ : ∃ z, IntKind.i64.wrap (fstK p.fns fn + a) = z := ⟨_, rfl⟩
  obtain ⟨vb, hvb⟩ : ∃ z, IntKind.i64.wrap (fstK p.fns fn + b) = z := ⟨_, rfl⟩
  obtain ⟨vc, hvc⟩ : ∃ z, IntKind.i64.wrap (fstK p.fns fn + c) = z := ⟨_, rfl⟩
  have HVA := Lib.hid (show wz (fstK p.fns fn + a) = va from hva)
  have HVB := Lib.hid (show wz (fstK p.fns fn + b) = vb from hvb)
  have HVC := Lib.hid (show wz (fstK p.fns fn + c) = vc from hvc)
  generalize fstK p.fns fn = s at *
  rcases hww with e1 | ⟨e1, e8⟩ | ⟨e1, e8⟩
  all_goals
    go_wp2_with fail
    refine (show Calls Tryz.prog 36 #[.agg #[.slice p.sa p.sites.length p.sc, .slice p.fa p.fns.length p.fc, .int .i64 p.main], .int .i64 fn] w1 _ from Told_any p w1 (HF.out.keep (CellsK.of HG1.out)) HS.out fn HFN.out).mono ?_
    rintro e w2 ⟨rfl, hg2⟩
    have HG2 := Lib.hid (grownBy_trans HG1.out hg2)
    clear hg2
    go_wp2_with fail
    refine (two_any _ _ _ _ _).mono ?_
    rintro e w3 ⟨rfl, ho3, hg3⟩
    have HO3 := Lib.hid ho3
    have HG3 := Lib.hid (grownBy_trans HG2.out hg3)
    clear ho3 hg3
    go_wp2_with fail
    go_ret
    exact ⟨_, _, [twoK 2 (tellK p.fns fn) va 0], rfl, (fun h => by cases h), StrAt.of_own konC_size HO3.out, .of, by rw [HC.out, HVA.out]; rfl, HG3.out, fun ad h => by injection h with h; subst h; exact HG2.out.size⟩
set_option maxRecDepth 100000 in
set_option maxHeartbeats 16000000 in
theorem rin_19n (hf : StrAt funC 5 w p.fa p.fns) (hs : SmallF p.fns) (hfn : fn < p.fns.length) (h1 : a = -1) :
    Calls Tryz.prog 21 #[prgV p, .int .i64 fn, insV ⟨19, a, b, c, ww, n, sign, aa, an, ac, args⟩] w (GenRet w (consI p.fns fn ⟨19, a, b, c, ww, n, sign, aa, an, ac, args⟩)) := by
  have d1 : decide (0 ≤ a) = false := by simp; omega
  have HF := Lib.hid hf
  have HS := Lib.hid hs
  have HFN := Lib.hid hfn
  have HC := Lib.hid (show consI p.fns fn ⟨19, a, b, c, ww, n, sign, aa, an, ac, args⟩ = [] from (if_pos h1 : (if a = -1 then [] else [twoK 2 (tellK p.fns fn) (wz (fstK p.fns fn + a)) 0]) = _))
  have hww : ((ww == 1) = true) ∨ ((ww == 1) = false ∧ (ww == 8) = true) ∨ ((ww == 1) = false ∧ (ww == 8) = false) := by
    cases (ww == 1) <;> cases (ww == 8) <;> simp
  clear hf hs h1
  unfold prgV insV prgC insC
  go_enter Tryz.func21, Tryz.ntmps21
  go_wp2_with fail
  refine (show Calls Tryz.prog 19 #[.agg #[.slice p.sa p.sites.length p.sc, .slice p.fa p.fns.length p.fc, .int .i64 p.main], .int .i64 fn] _ _ from First_any p _ (HF.out.keep (CellsK.of (gr_alloc (gr_alloc (grownBy_refl w none) _) _))) HS.out fn (Nat.le_of_lt hfn)).mono ?_
  rintro e w1 ⟨rfl, hg1⟩
  have HG1 := Lib.hid (grownBy_trans (gr_alloc (gr_alloc (grownBy_refl w none) (.cells (prgC p) 25)) (.cells (insC ⟨19, a, b, c, ww, n, sign, aa, an, ac, args⟩) 36)) hg1)
  have HB1 := Lib.hid (show BoxC (prgC p) 25 w.heap.size w1 from ((BoxC.new w (prgC p) 25).gr (gr_alloc (grownBy_refl _ _) _)).gr hg1)
  have HI1 := Lib.hid (show BoxC (insC ⟨19, a, b, c, ww, n, sign, aa, an, ac, args⟩) 36 (w.heap.size + 1) w1 from BoxC.gr (show BoxC (insC ⟨19, a, b, c, ww, n, sign, aa, an, ac, args⟩) 36 (w.heap.size + 1) ((w.alloc (.cells (prgC p) 25)).alloc (.cells (insC ⟨19, a, b, c, ww, n, sign, aa, an, ac, args⟩) 36)) from alloc_at (by simp)) hg1)
  obtain ⟨b0, b1, b2⟩ := boxP HB1.out
  obtain ⟨i0, i1, i2, i3, i4, i5, i6, i7⟩ := boxI HI1.out
  have lb := lt_of_heap HB1.out
  have li := lt_of_heap HI1.out
  clear hg1
  obtain ⟨va, hva⟩ : ∃ z, IntKind.i64.wrap (fstK p.fns fn + a) = z := ⟨_, rfl⟩
  obtain ⟨vb, hvb⟩ : ∃ z, IntKind.i64.wrap (fstK p.fns fn + b) = z := ⟨_, rfl⟩
  obtain ⟨vc, hvc⟩ : ∃ z, IntKind.i64.wrap (fstK p.fns fn + c) = z := ⟨_, rfl⟩
  have HVA := Lib.hid (show wz (fstK p.fns fn + a) = va from hva)
  have HVB := Lib.hid (show wz (fstK p.fns fn + b) = vb from hvb)
  have HVC := Lib.hid (show wz (fstK p.fns fn + c) = vc from hvc)
  generalize fstK p.fns fn = s at *
  rcases hww with e1 | ⟨e1, e8⟩ | ⟨e1, e8⟩
  all_goals
    go_wp2_with fail
    go_ret
    exact ⟨none, 0, [], rfl, (fun _ => rfl), .inl rfl, .nil _, HC.out.symm, HG1.out, fun _ h => by cases h⟩
set_option maxRecDepth 100000 in
set_option maxHeartbeats 16000000 in
theorem rin_else (hf : StrAt funC 5 w p.fa p.fns) (hs : SmallF p.fns) (hfn : fn < p.fns.length) (op : Int) (ho : op ≠ 2 ∧ op ≠ 13 ∧ op ≠ 3 ∧ op ≠ 4 ∧ op ≠ 5 ∧ op ≠ 7 ∧ op ≠ 8 ∧ op ≠ 9 ∧ op ≠ 10 ∧ op ≠ 11 ∧ op ≠ 15 ∧ op ≠ 16 ∧ op ≠ 19) :
    Calls Tryz.prog 21 #[prgV p, .int .i64 fn, insV ⟨op, a, b, c, ww, n, sign, aa, an, ac, args⟩] w (GenRet w (consI p.fns fn ⟨op, a, b, c, ww, n, sign, aa, an, ac, args⟩)) := by
  have d2 : (op == 2) = false := by simp; omega
  have d13 : (op == 13) = false := by simp; omega
  have d3 : (op == 3) = false := by simp; omega
  have d4 : (op == 4) = false := by simp; omega
  have d5 : (op == 5) = false := by simp; omega
  have d7 : (op == 7) = false := by simp; omega
  have d8 : (op == 8) = false := by simp; omega
  have d9 : (op == 9) = false := by simp; omega
  have d10 : (op == 10) = false := by simp; omega
  have d11 : (op == 11) = false := by simp; omega
  have d15 : (op == 15) = false := by simp; omega
  have d16 : (op == 16) = false := by simp; omega
  have d19 : (op == 19) = false := by simp; omega
  have HF := Lib.hid hf
  have HS := Lib.hid hs
  have HFN := Lib.hid hfn
  have HC := Lib.hid (show consI p.fns fn ⟨op, a, b, c, ww, n, sign, aa, an, ac, args⟩ = [] from (by unfold consI; simp only; rw [if_neg (by omega), if_neg (by omega), if_neg (by omega), if_neg (by omega), if_neg (by omega), if_neg (by omega), if_neg (by omega), if_neg (by omega), if_neg (by omega), if_neg (by omega), if_neg (by omega), if_neg (by omega), if_neg (by omega)]))
  have hww : ((ww == 1) = true) ∨ ((ww == 1) = false ∧ (ww == 8) = true) ∨ ((ww == 1) = false ∧ (ww == 8) = false) := by
    cases (ww == 1) <;> cases (ww == 8) <;> simp
  clear hf hs ho
  unfold prgV insV prgC insC
  go_enter Tryz.func21, Tryz.ntmps21
  go_wp2_with fail
  refine (show Calls Tryz.prog 19 #[.agg #[.slice p.sa p.sites.length p.sc, .slice p.fa p.fns.length p.fc, .int .i64 p.main], .int .i64 fn] _ _ from First_any p _ (HF.out.keep (CellsK.of (gr_alloc (gr_alloc (grownBy_refl w none) _) _))) HS.out fn (Nat.le_of_lt hfn)).mono ?_
  rintro e w1 ⟨rfl, hg1⟩
  have HG1 := Lib.hid (grownBy_trans (gr_alloc (gr_alloc (grownBy_refl w none) (.cells (prgC p) 25)) (.cells (insC ⟨op, a, b, c, ww, n, sign, aa, an, ac, args⟩) 36)) hg1)
  have HB1 := Lib.hid (show BoxC (prgC p) 25 w.heap.size w1 from ((BoxC.new w (prgC p) 25).gr (gr_alloc (grownBy_refl _ _) _)).gr hg1)
  have HI1 := Lib.hid (show BoxC (insC ⟨op, a, b, c, ww, n, sign, aa, an, ac, args⟩) 36 (w.heap.size + 1) w1 from BoxC.gr (show BoxC (insC ⟨op, a, b, c, ww, n, sign, aa, an, ac, args⟩) 36 (w.heap.size + 1) ((w.alloc (.cells (prgC p) 25)).alloc (.cells (insC ⟨op, a, b, c, ww, n, sign, aa, an, ac, args⟩) 36)) from alloc_at (by simp)) hg1)
  obtain ⟨b0, b1, b2⟩ := boxP HB1.out
  obtain ⟨i0, i1, i2, i3, i4, i5, i6, i7⟩ := boxI HI1.out
  have lb := lt_of_heap HB1.out
  have li := lt_of_heap HI1.out
  clear hg1
  obtain ⟨va, hva⟩ : ∃ z, IntKind.i64.wrap (fstK p.fns fn + a) = z := ⟨_, rfl⟩
  obtain ⟨vb, hvb⟩ : ∃ z, IntKind.i64.wrap (fstK p.fns fn + b) = z := ⟨_, rfl⟩
  obtain ⟨vc, hvc⟩ : ∃ z, IntKind.i64.wrap (fstK p.fns fn + c) = z := ⟨_, rfl⟩
  have HVA := Lib.hid (show wz (fstK p.fns fn + a) = va from hva)
  have HVB := Lib.hid (show wz (fstK p.fns fn + b) = vb from hvb)
  have HVC := Lib.hid (show wz (fstK p.fns fn + c) = vc from hvc)
  generalize fstK p.fns fn = s at *
  rcases hww with e1 | ⟨e1, e8⟩ | ⟨e1, e8⟩
  all_goals
    go_wp2_with fail
    go_ret
    exact ⟨none, 0, [], rfl, (fun _ => rfl), .inl rfl, .nil _, HC.out.symm, HG1.out, fun _ h => by cases h⟩
end

end Go.Proofs.YtajmkdbokdjmeaaGreat
/- The document: Insn: calls by a pointer. -/
namespace Go.Proofs.YtajmkdbokdjmeaaGreat
open Go.RowKit
section
variable {p : Prg} {fn : Nat} {w : World} (a b c ww n : Int) (sign : ByteArray) (aa : Option Addr) (ac : Nat) (args : List Int)
set_option maxRecDepth 100000 in
set_option maxHeartbeats 16000000 in
theorem rin_16 (hf : StrAt funC 5 w p.fa p.fns) (hs : SmallF p.fns) (hfn : fn < p.fns.length) (hA : IntsAt w aa args.length ac args) (hle : args.length ≤ 4000) :
    Calls Tryz.prog 21 #[prgV p, .int .i64 fn, insV ⟨16, a, b, c, ww, n, sign, aa, args.length, ac, args⟩] w (GenRet w (consI p.fns fn ⟨16, a, b, c, ww, n, sign, aa, args.length, ac, args⟩)) := by
  have HA := Lib.hid hA
  have HF := Lib.hid hf
  have HS := Lib.hid hs
  have HFN := Lib.hid hfn
  have HC := Lib.hid (show consI p.fns fn ⟨16, a, b, c, ww, n, sign, aa, args.length, ac, args⟩ = [callK (wz (fstK p.fns fn + a)) (wz (fstK p.fns fn + b)) (args.map fun x => wz (fstK p.fns fn + x))] from rfl)
  have hww : ((ww == 1) = true) ∨ ((ww == 1) = false ∧ (ww == 8) = true) ∨ ((ww == 1) = false ∧ (ww == 8) = false) := by
    cases (ww == 1) <;> cases (ww == 8) <;> simp
  clear hf hs hA
  unfold prgV insV prgC insC
  go_enter Tryz.func21, Tryz.ntmps21
  go_wp2_with fail
  refine (show Calls Tryz.prog 19 #[.agg #[.slice p.sa p.sites.length p.sc, .slice p.fa p.fns.length p.fc, .int .i64 p.main], .int .i64 fn] _ _ from First_any p _ (HF.out.keep (CellsK.of (gr_alloc (gr_alloc (grownBy_refl w none) _) _))) HS.out fn (Nat.le_of_lt hfn)).mono ?_
  rintro e w1 ⟨rfl, hg1⟩
  have HG1 := Lib.hid (grownBy_trans (gr_alloc (gr_alloc (grownBy_refl w none) (.cells (prgC p) 25)) (.cells (insC ⟨16, a, b, c, ww, n, sign, aa, args.length, ac, args⟩) 36)) hg1)
  have HB1 := Lib.hid (show BoxC (prgC p) 25 w.heap.size w1 from ((BoxC.new w (prgC p) 25).gr (gr_alloc (grownBy_refl _ _) _)).gr hg1)
  have HI1 := Lib.hid (show BoxC (insC ⟨16, a, b, c, ww, n, sign, aa, args.length, ac, args⟩) 36 (w.heap.size + 1) w1 from BoxC.gr (show BoxC (insC ⟨16, a, b, c, ww, n, sign, aa, args.length, ac, args⟩) 36 (w.heap.size + 1) ((w.alloc (.cells (prgC p) 25)).alloc (.cells (insC ⟨16, a, b, c, ww, n, sign, aa, args.length, ac, args⟩) 36)) from alloc_at (by simp)) hg1)
  obtain ⟨b0, b1, b2⟩ := boxP HB1.out
  obtain ⟨i0, i1, i2, i3, i4, i5, i6, i7⟩ := boxI HI1.out
  have lb := lt_of_heap HB1.out
  have li := lt_of_heap HI1.out
  clear hg1
  obtain ⟨va, hva⟩ : ∃ z, IntKind.i64.wrap (fstK p.fns fn + a) = z := ⟨_, rfl⟩
  obtain ⟨vb, hvb⟩ : ∃ z, IntKind.i64.wrap (fstK p.fns fn + b) = z := ⟨_, rfl⟩
  obtain ⟨vc, hvc⟩ : ∃ z, IntKind.i64.wrap (fstK p.fns fn + c) = z := ⟨_, rfl⟩
  have HVA := Lib.hid (show wz (fstK p.fns fn + a) = va from hva)
  have HVB := Lib.hid (show wz (fstK p.fns fn + b) = vb from hvb)
  have HVC := Lib.hid (show wz (fstK p.fns fn + c) = vc from hvc)
  generalize fstK p.fns fn = s at *
  rcases hww with e1 | ⟨e1, e8⟩ | ⟨e1, e8⟩
  all_goals
    go_wp2_with fail
    go_loopw [14, 15] (fun v i wr => ∃ q : Nat, q ≤ args.length ∧ i = .int .i64 q ∧ Hid (OwN w1.heap.size wr v ((args.take q).map fun x => wz (s + x))) ∧ Hid (w1.grownBy wr none)) (fun v i _ => args.length - (intOf i).toNat)
    case atStart => exact ⟨0, Nat.zero_le _, rfl, Lib.hid (OwN.nil _ _), Lib.hid (grownBy_refl _ _)⟩
    case round =>
      obtain ⟨q, hq, rfl, HO, HG⟩ := hrel
      have hlen : ((args.take q).map fun x => wz (s + x)).length = q := by simp; omega
      obtain ⟨V, d, hv, _⟩ := HO.out.args
      rw [hlen] at hv
      subst hv
      have HLEN := Lib.hid hlen
      clear hlen b0 b1 b2 i0 i1 i2 i3 i4 i5 i6 i7
      have HIW := Lib.hid (HI1.out.gr HG.out)
      obtain ⟨_, _, _, _, _, _, _, i7⟩ := boxI HIW.out
      have hliw := lt_of_heap HIW.out
      by_cases hlt : q < args.length
      · have hx := List.getElem?_eq_getElem hlt
        obtain ⟨la, rfl, c4⟩ := (HA.out.keep (CellsK.of (grownBy_trans HG1.out HG.out))).cellAt hx
        generalize args[q]'hlt = x at *
        have HX := Lib.hid hx
        have HQ := Lib.hid (show IntKind.i64.wrap ((q : Int) + 1) = (q : Int) + 1 by rw [IntKind.wrap_i64]; omega)
        obtain ⟨z, hz⟩ : ∃ z, z = wz (s + x) := ⟨_, rfl⟩
        have hzz : IntKind.i64.wrap (s + x) = z := hz.symm
        have HZ := Lib.hid hz
        clear hx hz
        have hsz := HG.out.size
        go_wp2_with (at_builtin; go_must (refine app_one rfl (.tmp 181) (.tmp 189) rfl w1.heap.size (.slice V q d) ((args.take q).map fun x => wz (s + x)) rfl (HO.out.gr (gr_alloc (grownBy_refl wr none) _)) wr.heap.size z (0, 0) rfl (heap_alloc_new wr _) (by rw [HLEN.out]; omega) (by simp; omega) ?_; intro v1 w5 ho1 hg1; obtain ⟨A1, c1', hv1, _⟩ := ho1.out.args; rw [List.length_append, HLEN.out] at hv1; subst hv1))
        refine ⟨⟨q + 1, hlt, rfl, Lib.hid ?_, Lib.hid (gr_own (gr_alloc HG.out _) hg1.out fun k hk => (World.ownsRow.lt HO.out k hk).1)⟩, by simp [intOf]; omega⟩
        rw [List.take_add_one, HX.out, List.map_append]
        rw [HZ.out] at ho1
        exact ho1.out
      · obtain rfl : q = args.length := by omega
        have h1 := HO.out
        rw [List.take_of_length_le (Nat.le_refl _)] at h1
        obtain ⟨A1, c1, hv, h2⟩ := h1.args
        rw [List.length_map] at hv h2
        injection hv with hv1 hv2 hv3
        subst hv1 hv3
        have HAR := Lib.hid h2
        clear h1 h2
        go_wp2_with fail
        go_ret
        exact ⟨_, _, [⟨8, va, vb, 0, 0, 0, V, args.length, d, args.map (fun x => wz (s + x)), 0, 0⟩], rfl, (fun h => by cases h), one_kon (heap_alloc_new _ _), KArgs.one (HAR.out.fr (FrK.gr (gr_alloc (grownBy_refl _ _) _))), by rw [HC.out, HVA.out, HVB.out]; rfl, gr_alloc (grownBy_trans HG1.out HG.out) _, fun ad h => by injection h with h; subst h; exact (grownBy_trans HG1.out HG.out).size⟩
end

end Go.Proofs.YtajmkdbokdjmeaaGreat
