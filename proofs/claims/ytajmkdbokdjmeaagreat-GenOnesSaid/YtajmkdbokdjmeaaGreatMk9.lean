/- Merged: Rna, Rnb, Rnd, Rne, Rnf, Rnc. -/
import Derived.Test.YtajmkdbokdjmeaaGreatMk8
/- The document: Insn: calls. -/
namespace Go.Proofs.YtajmkdbokdjmeaaGreat
open Go.RowKit
section
variable {p : Prg} {fn : Nat} {w : World} (a b c ww : Int) (sign : ByteArray) (aa : Option Addr) (ac : Nat) (args : List Int)
set_option maxRecDepth 100000 in
set_option maxHeartbeats 16000000 in
theorem rin_15 (hf : StrAt funC 5 w p.fa p.fns) (hs : SmallF p.fns) (hfn : fn < p.fns.length) (N : Nat) (hN : N < p.fns.length) (hA : IntsAt w aa args.length ac args) (hle : args.length ≤ 4000) :
    Calls Tryz.prog 21 #[prgV p, .int .i64 fn, insV ⟨15, a, b, c, ww, (N : Int), sign, aa, args.length, ac, args⟩] w (GenRet w (consI p.fns fn ⟨15, a, b, c, ww, (N : Int), sign, aa, args.length, ac, args⟩)) := by
  have HA := Lib.hid hA
  have HF := Lib.hid hf
  have HS := Lib.hid hs
  have HFN := Lib.hid hfn
  have HC := Lib.hid (show consI p.fns fn ⟨15, a, b, c, ww, (N : Int), sign, aa, args.length, ac, args⟩ = callV (fstK p.fns N) (tellK p.fns N) (wz (fstK p.fns fn + a)) (args.map fun x => wz (fstK p.fns fn + x)) from rfl)
  have hww : ((ww == 1) = true) ∨ ((ww == 1) = false ∧ (ww == 8) = true) ∨ ((ww == 1) = false ∧ (ww == 8) = false) := by
    cases (ww == 1) <;> cases (ww == 8) <;> simp
  clear hf hs hA
  unfold prgV insV prgC insC
  go_enter Tryz.func21, Tryz.ntmps21
  go_wp2_with fail
  refine (show Calls Tryz.prog 19 #[.agg #[.slice p.sa p.sites.length p.sc, .slice p.fa p.fns.length p.fc, .int .i64 p.main], .int .i64 fn] _ _ from First_any p _ (HF.out.keep (CellsK.of (gr_alloc (gr_alloc (grownBy_refl w none) _) _))) HS.out fn (Nat.le_of_lt hfn)).mono ?_
  rintro e w1 ⟨rfl, hg1⟩
  have HG1 := Lib.hid (grownBy_trans (gr_alloc (gr_alloc (grownBy_refl w none) (.cells (prgC p) 25)) (.cells (insC ⟨15, a, b, c, ww, (N : Int), sign, aa, args.length, ac, args⟩) 36)) hg1)
  have HB1 := Lib.hid (show BoxC (prgC p) 25 w.heap.size w1 from ((BoxC.new w (prgC p) 25).gr (gr_alloc (grownBy_refl _ _) _)).gr hg1)
  have HI1 := Lib.hid (show BoxC (insC ⟨15, a, b, c, ww, (N : Int), sign, aa, args.length, ac, args⟩) 36 (w.heap.size + 1) w1 from BoxC.gr (show BoxC (insC ⟨15, a, b, c, ww, (N : Int), sign, aa, args.length, ac, args⟩) 36 (w.heap.size + 1) ((w.alloc (.cells (prgC p) 25)).alloc (.cells (insC ⟨15, a, b, c, ww, (N : Int), sign, aa, args.length, ac, args⟩) 36)) from alloc_at (by simp)) hg1)
  obtain ⟨b0, b1, b2⟩ := boxP HB1.out
  obtain ⟨i0, i1, i2, i3, i4, i5, i6, i7⟩ := boxI HI1.out
  have lb := lt_of_heap HB1.out
  have li := lt_of_heap HI1.out
  clear hg1
  obtain ⟨va, hva⟩ : ∃ z, IntKind.i64.wrap (fstK p.fns fn + a) = z := ⟨_, rfl⟩
  obtain ⟨vb, hvb⟩ : ∃ z, IntKind.i64.wrap (fstK p.fns fn + b) = z := ⟨_, rfl⟩
  obtain ⟨vc, hvc⟩ : ∃ z, IntKind.i64.wrap (fstK p.fns fn + c) = z := ⟨_, rfl⟩
  have HVA := Lib.hid (show wz (fstK p.fns fn + a) = va from hva)
  have HVB := Lib.hid (show wz (fstK p.fns fn + b) = vb from hvb)
  have HVC := Lib.hid (show wz (fstK p.fns fn + c) = vc from hvc)
  generalize hse : fstK p.fns fn = s at *
  clear hse
  generalize htl : tellK p.fns N = tl at *
  have HTL := Lib.hid htl
  clear htl
  have HT := Lib.hid (HS.out.fst N)
  generalize hte : fstK p.fns N = t at *
  have HTE := Lib.hid hte
  clear hte
  rcases hww with e1 | ⟨e1, e8⟩ | ⟨e1, e8⟩
  all_goals
    go_wp2_with fail
    go_loopw [12, 13] (fun v i wr => ∃ q : Nat, q ≤ args.length ∧ i = .int .i64 q ∧ Hid (OwR w1.heap.size wr v (argV t (args.map fun x => wz (s + x)) q)) ∧ Hid (w1.grownBy wr none)) (fun v i _ => args.length - (intOf i).toNat)
    case atStart => exact ⟨0, Nat.zero_le _, rfl, Lib.hid (OwR.nil _ _), Lib.hid (grownBy_refl _ _)⟩
    case round =>
      obtain ⟨q, hq, rfl, HO, HG⟩ := hrel
      obtain ⟨V, d, hv, _⟩ := HO.out.at_
      rw [argV_len] at hv
      subst hv
      clear b0 b1 b2 i0 i1 i2 i3 i4 i5 i6 i7
      have HIW := Lib.hid (HI1.out.gr HG.out)
      have HBW := Lib.hid (HB1.out.gr HG.out)
      obtain ⟨_, _, _, _, _, i5, _, i7⟩ := boxI HIW.out
      obtain ⟨b0, b1, b2⟩ := boxP HBW.out
      have hliw := lt_of_heap HIW.out
      have hlbw := lt_of_heap HBW.out
      have HGW := Lib.hid (grownBy_trans HG1.out HG.out)
      by_cases hlt : q < args.length
      · have hx := List.getElem?_eq_getElem hlt
        obtain ⟨la, rfl, c4⟩ := (HA.out.keep (CellsK.of HGW.out)).cellAt hx
        generalize args[q]'hlt = x at *
        have HX := Lib.hid hx
        have HQ := Lib.hid (show IntKind.i64.wrap ((q : Int) + 1) = (q : Int) + 1 by rw [IntKind.wrap_i64]; omega)
        obtain ⟨y, hy⟩ : ∃ y, y = wz (s + x) := ⟨_, rfl⟩
        have hyy : IntKind.i64.wrap (s + x) = y := hy.symm
        have HY := Lib.hid hy
        obtain ⟨z, hz⟩ : ∃ z, z = t + (q : Int) := ⟨_, rfl⟩
        have hzz : IntKind.i64.wrap (t + (q : Int)) = z := by rw [hz, IntKind.wrap_i64]; have := HT.out; omega
        have HZ := Lib.hid hz
        clear hx hy hz
        have HKF := Lib.hid (fun (W : World) (k : FrK wr W) (g : w.grownBy W none) => (show (W.cell? ⟨w.heap.size, 0, none⟩ = some (.slice p.sa p.sites.length p.sc) ∧ W.cell? ⟨w.heap.size, 1, none⟩ = some (.slice p.fa p.fns.length p.fc) ∧ W.cell? ⟨w.heap.size, 2, none⟩ = some (.int .i64 p.main)) ∧ W.cell? ⟨w.heap.size + 1, 5, none⟩ = some (.int .i64 (N : Int)) ∧ W.cell? ⟨w.heap.size + 1, 7, none⟩ = some (.slice (some la) args.length ac) ∧ W.cell? (la.add q) = some (.int .i64 x) from
          ⟨boxP (HBW.out.fr k (by decide) (by decide)), (boxI (HIW.out.fr k (by decide) (by decide))).2.2.2.2.2.1, (boxI (HIW.out.fr k (by decide) (by decide))).2.2.2.2.2.2.2, (by
            obtain ⟨la', hla, c5⟩ := (HA.out.keep (CellsK.of g)).cellAt HX.out
            injection hla with hla
            subst hla
            exact c5)⟩))
        have HKP := Lib.hid (fun (W : World) (g : wr.grownBy W none) => HKF.out W (FrK.gr g) (grownBy_trans HGW.out g))
        have HKA := Lib.hid (fun (X W : World) (g : wr.grownBy X none) (h : X.grownBy W (Value.slice V q d).ownBlock) => HKF.out W ((FrK.gr g).trans (FrK.own (HO.out.gr g) h)) (gr_own (grownBy_trans HGW.out g) h fun k hk => by have := (World.ownsRow.lt HO.out k hk).1; have := HG1.out.size; omega))
        have HFI := Lib.hid (fun (W : World) (g : wr.grownBy W none) => (show Calls Tryz.prog 19 #[.agg #[.slice p.sa p.sites.length p.sc, .slice p.fa p.fns.length p.fc, .int .i64 p.main], .int .i64 (N : Int)] W (fun e w' => e = .returned (.int .i64 t) ∧ W.grownBy w' none) from by
          have := First_any p W (HF.out.keep (CellsK.of (grownBy_trans HGW.out g))) HS.out N (Nat.le_of_lt hN)
          rw [HTE.out] at this
          exact this))
        go_wp2_with fail
        go_region_held3 (fun W => (W.cell? ⟨w.heap.size, 0, none⟩ = some (.slice p.sa p.sites.length p.sc) ∧ W.cell? ⟨w.heap.size, 1, none⟩ = some (.slice p.fa p.fns.length p.fc) ∧ W.cell? ⟨w.heap.size, 2, none⟩ = some (.int .i64 p.main)) ∧ W.cell? ⟨w.heap.size + 1, 5, none⟩ = some (.int .i64 (N : Int)) ∧ W.cell? ⟨w.heap.size + 1, 7, none⟩ = some (.slice (some la) args.length ac) ∧ W.cell? (la.add q) = some (.int .i64 x)) (first | assumption | (refine HKP.out _ ?_; (repeat (first | with_reducible exact grownBy_refl _ _ | with_reducible assumption | with_reducible refine World.grownBy.gr_drew ?_ | with_reducible refine gr_alloc ?_ _ | with_reducible refine grownBy_trans ?_ (by assumption))); done) | (refine HKA.out _ _ ?_ (by assumption); (repeat (first | with_reducible exact grownBy_refl _ _ | with_reducible assumption | with_reducible refine World.grownBy.gr_drew ?_ | with_reducible refine gr_alloc ?_ _ | with_reducible refine grownBy_trans ?_ (by assumption))); done)) (first
          | (go_at_call 19; refine (HFI.out _ ?_).mono ?_; (focus repeat (first | with_reducible exact grownBy_refl _ _ | with_reducible assumption | with_reducible refine World.grownBy.gr_drew ?_ | with_reducible refine gr_alloc ?_ _ | with_reducible refine grownBy_trans ?_ (by assumption))); rintro e w2 ⟨rfl, hg2⟩)
          | (go_at_call 35; refine (two_any _ _ _ _ _).mono ?_; rintro e w3 ⟨rfl, ho3, hg3⟩)
          | (refine step_app_kons rfl (.tmp 148) (.tmp 162) rfl w1.heap.size (.slice V q d) (argV t (args.map fun x => wz (s + x)) q) [twoK 2 z y 0] (by simp [Act.eval]) (HO.out.gr ?_) ⟨_, 0, none⟩ 1 1 rfl (by simp [Act.eval]) (StrAt.of_own konC_size ho3) (by rw [argV_len]; simp; omega) ?_ ?_; (focus repeat (first | with_reducible exact grownBy_refl _ _ | with_reducible assumption | with_reducible refine World.grownBy.gr_drew ?_ | with_reducible refine gr_alloc ?_ _ | with_reducible refine grownBy_trans ?_ (by assumption))); (focus (refine Nat.le_trans HG.out.size (World.grownBy.size (?_ : wr.grownBy _ none)); repeat (first | with_reducible exact grownBy_refl _ _ | with_reducible assumption | with_reducible refine World.grownBy.gr_drew ?_ | with_reducible refine gr_alloc ?_ _ | with_reducible refine grownBy_trans ?_ (by assumption)))); intro v5 w5 ho5 hg5; obtain ⟨A5, c5, hv5, _⟩ := ho5.at_; rw [List.length_append, argV_len] at hv5; subst hv5))
        all_goals
          have HE5 := Lib.hid (show OwR w1.heap.size w5 (.slice A5 (q + 1) c5) (argV t (args.map fun x => wz (s + x)) (q + 1)) by
            rw [argV_succ (by rw [List.getElem?_map, HX.out]; rfl : (args.map fun x => wz (s + x))[q]? = some (wz (s + x))), ← HY.out, ← HZ.out]
            exact ho5)
          have HG5 := Lib.hid (show w1.grownBy w5 none from gr_own (grownBy_trans HG.out (by repeat (first | with_reducible exact grownBy_refl _ _ | with_reducible assumption | with_reducible refine World.grownBy.gr_drew ?_ | with_reducible refine gr_alloc ?_ _ | with_reducible refine grownBy_trans ?_ (by assumption)))) hg5 fun k hk => (World.ownsRow.lt HO.out k hk).1)
          go_wp2_with fail
          exact ⟨⟨q + 1, hlt, rfl, HE5, HG5⟩, by simp [intOf]; omega⟩
      · obtain rfl : q = args.length := by omega
        go_wp2_with fail
        refine (show Calls Tryz.prog 36 #[.agg #[.slice p.sa p.sites.length p.sc, .slice p.fa p.fns.length p.fc, .int .i64 p.main], .int .i64 (N : Int)] wr _ from Told_any p wr (HF.out.keep (CellsK.of HGW.out)) HS.out N hN).mono ?_
        rintro e w2 ⟨rfl, hg2⟩
        have HG2 := Lib.hid hg2
        rw [HTL.out]
        clear hg2
        go_wp2_with fail
        refine (two_any _ _ _ _ _).mono ?_
        rintro e w3 ⟨rfl, ho3, hg3⟩
        have HO3 := Lib.hid (StrAt.of_own konC_size (l := [twoK 2 va tl 0]) ho3)
        have HG3 := Lib.hid (grownBy_trans HG2.out hg3)
        have HOV := Lib.hid (HO.out.gr HG3.out)
        have hs3 := (grownBy_trans HG.out HG3.out).size
        clear ho3 hg3
        go_wp2_with (at_builtin; go_must (refine app_kons rfl (.tmp 164) (.tmp 170) rfl w1.heap.size (.slice V args.length d) (argV t (args.map fun x => wz (s + x)) args.length) [twoK 2 va tl 0] rfl HOV.out (some ⟨_, 0, none⟩) 1 1 rfl rfl HO3.out (fun h => by cases h) (by rw [argV_len]; simp; omega) hs3 ?_; intro v5 w5 ho5 hg5; obtain ⟨A5, c5, hv5, _⟩ := ho5.out.at_; rw [List.length_append, argV_len] at hv5; subst hv5))
        go_ret
        have h5 := ho5.out
        have hlen : (argV t (args.map fun x => wz (s + x)) args.length ++ [twoK 2 va tl 0]).length = args.length + [twoK 2 va tl 0].length := by rw [List.length_append, argV_len]
        rw [← hlen] at h5
        obtain ⟨A6, c6, hv6, h6, h7⟩ := h5.at_
        injection hv6 with hv1 hv2 hv3
        subst hv1 hv3
        have hq : ∀ c ∈ callV t tl va (args.map fun x => wz (s + x)), bare c = c := app_mem (argV_bare _ _ _) (one_mem rfl)
        refine ⟨_, _, _, by rw [hlen]; rfl, h6, h7, ?_, ?_, gr_own (grownBy_trans HG1.out (grownBy_trans HG.out HG3.out)) hg5.out (fun k hk => by have := (World.ownsRow.lt HO.out k hk).1; have := HG1.out.size; omega), fun ad h => Nat.le_trans HG1.out.size (OwR.fresh h5 ad h)⟩
        · refine KArgs.app (fun c hc => ?_) .of
          obtain ⟨j, _, rfl⟩ := List.mem_map.1 hc
          exact .nil _
        · rw [HC.out, HVA.out]
          unfold callV
          rw [List.length_map, List.map_append]
          exact congrArg (· ++ _) (List.map_congr_left (argV_bare _ _ _) |>.trans (List.map_id _))
end

end Go.Proofs.YtajmkdbokdjmeaaGreat
/- The document: Insn, whatever the instruction. -/
namespace Go.Proofs.YtajmkdbokdjmeaaGreat
open Go.RowKit
def RetOk (i : Ins) : Prop := i.op = 19 → -1 ≤ i.a
theorem rinsn_any {p : Prg} {fn : Nat} {w : World} (hf : StrAt funC 5 w p.fa p.fns) (hs : SmallF p.fns) (hfn : fn < p.fns.length) (i : Ins) (hA : IntsAt w i.aa i.an i.ac i.args) (hi : SmallI p.fns.length i) (hr : RetOk i) :
    Calls Tryz.prog 21 #[prgV p, .int .i64 fn, insV i] w (GenRet w (consI p.fns fn i)) := by
  obtain ⟨op, a, b, c, ww, n, sign, aa, an, ac, args⟩ := i
  obtain rfl : an = args.length := hA.1
  by_cases h2 : op = 2
  · subst h2; exact rin_2 a b c ww n sign aa _ ac args hf hs hfn
  by_cases h13 : op = 13
  · subst h13; exact rin_13 a b c ww n sign aa _ ac args hf hs hfn
  by_cases h3 : op = 3
  · subst h3
    by_cases q1 : n < -4096
    · exact rin_3l a b c ww n sign aa _ ac args hf hs hfn q1
    · by_cases q2 : 4096 < n
      · exact rin_3h a b c ww n sign aa _ ac args hf hs hfn (by omega) q2
      · exact rin_3y a b c ww n sign aa _ ac args hf hs hfn (by omega)
  by_cases h4 : op = 4
  · subst h4
    by_cases q1 : n < 0
    · exact rin_4l a b c ww n sign aa _ ac args hf hs hfn q1
    · by_cases q2 : 4096 < n
      · exact rin_4h a b c ww n sign aa _ ac args hf hs hfn (by omega) q2
      · exact rin_4y a b c ww n sign aa _ ac args hf hs hfn (by omega)
  by_cases h5 : op = 5
  · subst h5
    by_cases q1 : sign.toList = [43]
    · exact rin_5p a b c ww n sign aa _ ac args hf hs hfn q1
    · by_cases q2 : sign.toList = [45]
      · exact rin_5m a b c ww n sign aa _ ac args hf hs hfn q1 q2
      · exact rin_5n a b c ww n sign aa _ ac args hf hs hfn q1 q2
  by_cases h7 : op = 7
  · subst h7
    by_cases q1 : ww = 1
    · exact rin_7a a b c ww n sign aa _ ac args hf hs hfn q1
    · by_cases q2 : ww = 8
      · exact rin_7b a b c ww n sign aa _ ac args hf hs hfn q1 q2
      · exact rin_7n a b c ww n sign aa _ ac args hf hs hfn q1 q2
  by_cases h8 : op = 8
  · subst h8
    by_cases q1 : ww = 1
    · exact rin_8a a b c ww n sign aa _ ac args hf hs hfn q1
    · by_cases q2 : ww = 8
      · exact rin_8b a b c ww n sign aa _ ac args hf hs hfn q1 q2
      · exact rin_8n a b c ww n sign aa _ ac args hf hs hfn q1 q2
  by_cases h9 : op = 9
  · subst h9
    by_cases q1 : ww = 1
    · exact rin_9a a b c ww n sign aa _ ac args hf hs hfn q1
    · by_cases q2 : ww = 8
      · exact rin_9b a b c ww n sign aa _ ac args hf hs hfn q1 q2
      · exact rin_9n a b c ww n sign aa _ ac args hf hs hfn q1 q2
  by_cases h10 : op = 10
  · subst h10; exact rin_10 a b c ww n sign aa _ ac args hf hs hfn
  by_cases h11 : op = 11
  · subst h11; exact rin_11 a b c ww n sign aa _ ac args hf hs hfn
  by_cases h15 : op = 15
  · subst h15
    obtain ⟨q1, q2, q3⟩ := hi.1 rfl
    obtain ⟨N, rfl⟩ : ∃ N : Nat, n = N := ⟨n.toNat, (Int.toNat_of_nonneg q1).symm⟩
    exact rin_15 a b c ww sign aa ac args hf hs hfn N (by exact Int.ofNat_lt.1 q2) hA q3
  by_cases h16 : op = 16
  · subst h16
    exact rin_16 a b c ww n sign aa ac args hf hs hfn hA (hi.2 rfl)
  by_cases h19 : op = 19
  · subst h19
    by_cases q1 : 0 ≤ a
    · exact rin_19y a b c ww n sign aa _ ac args hf hs hfn q1
    · have q2 : -1 ≤ a := hr rfl
      exact rin_19n a b c ww n sign aa _ ac args hf hs hfn (by omega)
  exact rin_else a b c ww n sign aa _ ac args hf hs hfn op ⟨h2, h13, h3, h4, h5, h7, h8, h9, h10, h11, h15, h16, h19⟩

end Go.Proofs.YtajmkdbokdjmeaaGreat
/- The document: Gen: one constraint more; what its loops keep. -/
namespace Go.Proofs.YtajmkdbokdjmeaaGreat
open Go.RowKit
theorem run_app_kon {w : World} {o : Oper} (base : Nat) (v : Value) (L : List Kon) (hown : OwR base w v L) (b : Nat) (k : Kon) (fz : Nat × Nat)
    (hb : w.heap[b]? = some (.cells (konC k) 43 fz)) (hn : L.length ≤ 100000000000) (hbase : base ≤ w.heap.size) :
    ∃ v' w', (Builtin.append_ #[33, 33] o.type #[v, .slice (some ⟨b, 0, none⟩) 1 1]).run Tryz.prog w = .ok v' w' ∧ Hid (OwR base w' v' (L ++ [k])) ∧ Hid (w.grownBy w' v.ownBlock) ∧ Hid (∀ g, v'.ownBlock = some g → v.ownBlock = some g ∨ w.heap.size ≤ g) := by
  obtain ⟨i0, hi, hz0, hz1, hz2⟩ := info_parts infoKon
  have hnews : ∀ (j : Nat) (u : Value), (konC k).toList[j]? = some u → w.cell? ((⟨b, 0, none⟩ : Addr).add j) = some u := fun j u hu => by
    rw [add_none, Nat.zero_add, cell_of_row _ _ _ _ _ _ hb, ← Array.getElem?_toList]
    exact hu
  have h1c : ∀ u ∈ (konC k).toList, u.oneCell' = true := konC_one k
  have hl : (flatC konC L).length = L.length * 9 := flat_len konC_size L
  obtain ⟨v', w', hr, h2, h3, _⟩ := run_append_own (P := Tryz.prog) w base 33 o.type 43 i0 _ 9 88 Tryz.underlying33 hi hz0 hz1 hz2 rfl (by decide) v L.length (flatC konC L) hown ⟨b, 0, none⟩ 1 1 (konC k).toList rfl hnews h1c (by unfold maxLen; omega) (by omega) hbase
  have hblk : ∀ g, v'.ownBlock = some g → v.ownBlock = some g ∨ w.heap.size ≤ g := by
    intro g hg
    rcases hown.2 with ⟨rfl, _⟩ | ⟨g0, cap, cur, rfl, hbg, hh, hnc, hcm, hcs, htake⟩
    · have hr2 := run_append_nil (P := Tryz.prog) w 33 o.type 43 i0 _ Tryz.underlying33 hi hz0 ⟨b, 0, none⟩ 1 1 (konC k).toList (by rw [hz1]; rfl) hnews (by omega) (by omega) (by rw [hz2]; omega)
      rw [hr2] at hr
      injection hr with e1 e2
      subst e1
      injection hg with hg
      exact .inr (by show w.heap.size ≤ g; have : w.heap.size = g := hg; omega)
    · by_cases hroom : L.length + 1 ≤ cap
      · have hr2 := run_append_room (P := Tryz.prog) w 33 o.type 43 i0 Tryz.underlying33 hi g0 L.length cap cur hh ⟨b, 0, none⟩ 1 1 (konC k).toList (by rw [hz1]; rfl) hnews h1c hroom (by rw [hz1, hcs]; show L.length * 9 + 9 ≤ cap * 9; omega)
        rw [hr2] at hr
        injection hr with e1 e2
        subst e1
        exact .inl hg
      · have hr2 := run_append_grow (P := Tryz.prog) w 33 o.type 43 i0 _ Tryz.underlying33 hi hz0 ⟨g0, 0, none⟩ L.length cap (flatC konC L) (by rw [hz1, hl]) (World.ownsRow.cells hown (g := g0) rfl) ⟨b, 0, none⟩ 1 1 (konC k).toList (by rw [hz1]; rfl) hnews (by omega) (by omega) (by rw [hz2]; exact growslice_fits (by omega) (by omega))
        rw [hr2] at hr
        injection hr with e1 e2
        subst e1
        injection hg with hg
        exact .inr (by show w.heap.size ≤ g; have : w.heap.size = g := hg; omega)
  refine ⟨v', w', hr, ?_, h3, hblk⟩
  show OwR base w' v' (L ++ [k])
  unfold OwR
  rw [flat_app, List.length_append]
  have : (konC k).toList = flatC konC [k] := by unfold flatC; simp
  rw [← this]
  exact h2
theorem app_kon {w : World} {ops : Array Oper} {rest : List Oper} {o : Oper} {a : Act} {Q : Exit → Act → World → Prop} (hgd : o.guard = none) (s x : Operand)
    (ho : o.op = .call { callee := .builtin .append, args := #[s, x], argTypes := #[33, 33] })
    (base : Nat) (v : Value) (L : List Kon) (hs : a.eval s = v) (hown : OwR base w v L) (b : Nat) (k : Kon) (fz : Nat × Nat)
    (hx : a.eval x = .slice (some ⟨b, 0, none⟩) 1 1) (hb : w.heap[b]? = some (.cells (konC k) 43 fz)) (hn : L.length ≤ 100000000000) (hbase : base ≤ w.heap.size)
    (h : ∀ v' w', Hid (OwR base w' v' (L ++ [k])) → Hid (w.grownBy w' v.ownBlock) → Hid (∀ g, v'.ownBlock = some g → v.ownBlock = some g ∨ w.heap.size ≤ g) → wpList Tryz.prog ops Q rest (a.put o.dst v') w') : wpList Tryz.prog ops Q (o :: rest) a w := by
  obtain ⟨v', w', hr, h2, h3, h4⟩ := run_app_kon (o := o) base v L hown b k fz hb hn hbase
  refine wpList_plain hgd fun K hK => ?_
  unfold Oper.wp execOp
  simp only [ho, resolve, invoke, builtin, Sem.run_bind, Sem.run_pure, Result.andThen_ok, List.map_toArray, List.map_cons, List.map_nil, hs, hx, hr]
  exact hK _ _ (h v' w' h2 h3 h4)
theorem kon_cells {w : World} {A : Option Addr} {l : List Kon} {k : Nat} (h : StrAt konC 9 w A l) (hk : k < l.length) : ∃ ad, A = some ad ∧
    w.cell? (ad.add (k * 9)) = some (.int .i64 l[k].kind) ∧ w.cell? ⟨(ad.add (k * 9)).block, (ad.add (k * 9)).off + 1, none⟩ = some (.int .i64 l[k].a) ∧ w.cell? ⟨(ad.add (k * 9)).block, (ad.add (k * 9)).off + 2, none⟩ = some (.int .i64 l[k].b) ∧ w.cell? ⟨(ad.add (k * 9)).block, (ad.add (k * 9)).off + 3, none⟩ = some (.int .i64 l[k].n) ∧ w.cell? ⟨(ad.add (k * 9)).block, (ad.add (k * 9)).off + 4, none⟩ = some (.int .i64 l[k].site) ∧ w.cell? ⟨(ad.add (k * 9)).block, (ad.add (k * 9)).off + 5, none⟩ = some (.int .i64 l[k].off) ∧ w.cell? ⟨(ad.add (k * 9)).block, (ad.add (k * 9)).off + 6, none⟩ = some (.slice l[k].aa l[k].an l[k].ac) ∧ w.cell? ⟨(ad.add (k * 9)).block, (ad.add (k * 9)).off + 7, none⟩ = some (.int .i64 l[k].fn) ∧ w.cell? ⟨(ad.add (k * 9)).block, (ad.add (k * 9)).off + 8, none⟩ = some (.int .i64 l[k].pc) := by
  obtain ⟨ad, ha, hc, hd⟩ := h.at_ hk
  exact ⟨ad, ha, hc _ rfl, hd 0 _ rfl, hd 1 _ rfl, hd 2 _ rfl, hd 3 _ rfl, hd 4 _ rfl, hd 5 _ rfl, hd 6 _ rfl, hd 7 _ rfl⟩
/-- What the loops of the document's Gen keep. -/
structure RgSt (p : Prg) (w : World) (v : Value) (L : List Kon) (wr : World) : Prop where
  made ::
  own : OwR w.heap.size wr v L
  args : KArgs wr L
  box : BoxC (prgC p) 25 w.heap.size wr
  gr : w.grownBy wr none
theorem RgSt.keep {p : Prg} {w wr W : World} {v : Value} {L : List Kon} (h : RgSt p w v L wr) (g : wr.grownBy W none) : RgSt p w v L W :=
  ⟨h.own.gr g, h.args.fr (.gr g), h.box.gr g, grownBy_trans h.gr g⟩
theorem RgSt.app {p : Prg} {w wr X W : World} {v v' : Value} {L : List Kon} {k : Kon} (h : RgSt p w v L wr) (g : wr.grownBy X none) (ho : OwR w.heap.size W v' (L ++ [k])) (hg : X.grownBy W v.ownBlock) (hk : ArgsAt wr k.aa k.an k.ac k.args) : RgSt p w v' (L ++ [k]) W :=
  have hX := h.keep g
  have hF : FrK X W := .own hX.own hg
  ⟨ho, (hX.args.fr hF).app (KArgs.fr (fun c hc => by obtain rfl := List.mem_singleton.1 hc; exact hk.fr (.gr g)) hF), hX.box.fr hF (by decide) (by decide), gr_own hX.gr hg fun k hk => (hX.own.lt k hk).1⟩
/-- The constraints of an instruction, in memory: in another row than v. -/
structure RdSt (v : Value) (A : Option Addr) (D : List Kon) (wr : World) : Prop where
  made ::
  at_ : StrAt konC 9 wr A D
  args : KArgs wr D
  ne : ∀ ad, A = some ad → D ≠ [] → v.ownBlock ≠ some ad.block
theorem addr_zero (ad : Addr) : (ad.add 0).block = ad.block := by unfold Addr.add; split <;> rfl
theorem addr_block (ad : Addr) (j : Nat) : (ad.add j).block = ad.block := by unfold Addr.add; split <;> rfl
theorem StrAt.lt {w : World} {ad : Addr} {l : List Kon} (h : StrAt konC 9 w (some ad) l) (hl : l ≠ []) : ad.block < w.heap.size := by
  rcases h with rfl | ⟨ad', e, hc⟩
  · exact absurd rfl hl
  · injection e with e
    subst e
    cases l with
    | nil => exact absurd rfl hl
    | cons x r =>
      have := World.block_lt_of_cell? w _ (hc 0 x rfl 0 _ rfl)
      rwa [show 0 * 9 + 0 = 0 by omega, addr_zero] at this
theorem StrAt.row {X W : World} {A : Option Addr} {l : List Kon} {r : Option Nat} (h : StrAt konC 9 X A l) (g : X.grownBy W r) (hr : ∀ ad, A = some ad → l ≠ [] → r ≠ some ad.block) : StrAt konC 9 W A l := by
  rcases h with h0 | ⟨ad, e, hc⟩
  · exact .inl h0
  · refine .inr ⟨ad, e, fun j x hx i u hu => ?_⟩
    have h1 := hc j x hx i u hu
    have hb := addr_block ad (j * 9 + i)
    exact (World.cell?_of_block (g.block _ (World.block_lt_of_cell? X _ h1) (by rw [hb]; exact fun e' => hr ad e (fun e2 => by rw [e2] at hx; simp at hx) e'.symm))).trans h1
theorem RdSt.app {wr X W : World} {v v' : Value} {A : Option Addr} {D L : List Kon} {base : Nat} (h : RdSt v A D wr) (hv : OwR base wr v L) (g : wr.grownBy X none) (hg : X.grownBy W v.ownBlock) (hb : ∀ k, v'.ownBlock = some k → v.ownBlock = some k ∨ X.heap.size ≤ k) : RdSt v' A D W := by
  have h1 : StrAt konC 9 X A D := h.at_.keep (CellsK.of g)
  refine ⟨h1.row hg h.ne, h.args.fr ((FrK.gr g).trans (FrK.own (hv.gr g) hg)), fun ad e hD e' => ?_⟩
  rcases hb _ e' with h2 | h2
  · exact h.ne ad e hD h2
  · subst e
    have := h1.lt hD
    omega
theorem RdSt.keep {wr X : World} {v : Value} {A : Option Addr} {D : List Kon} (h : RdSt v A D wr) (g : wr.grownBy X none) : RdSt v A D X := ⟨h.at_.keep (CellsK.of g), h.args.fr (.gr g), h.ne⟩

end Go.Proofs.YtajmkdbokdjmeaaGreat
/- The document: Gen. -/
namespace Go.Proofs.YtajmkdbokdjmeaaGreat
open Go.RowKit
structure DocOK (p : Prg) : Prop where
  made ::
  ok : GenOK p
  ret : ∀ f ∈ p.fns, ∀ i ∈ f.code, RetOk i
set_option maxRecDepth 100000 in
set_option maxHeartbeats 16000000 in
theorem rGen_any (p : Prg) (w : World) (hp : PrgOk w p) (hk : DocOK p) : Calls Tryz.prog 15 #[prgV p] w (GenRet w (genK p.fns p.fns.length)) := by
  have HP := Lib.hid hp
  have HK := Lib.hid hk.ok
  have HR := Lib.hid hk.ret
  have hn := hk.ok.small.1
  clear hp hk
  unfold prgV prgC
  go_enter Tryz.func15, Tryz.ntmps15
  go_wp2_with fail
  go_loopw [3, 4] (fun v i wr => ∃ (k : Nat) (L : List Kon), k ≤ p.fns.length ∧ i = .int .i64 k ∧ Hid (L.map bare = genK p.fns k) ∧ Hid (RgSt p w v L wr)) (fun v i _ => p.fns.length - (intOf i).toNat)
  case atStart => exact ⟨0, [], Nat.zero_le _, rfl, Lib.hid rfl, Lib.hid ⟨OwR.nil _ _, .nil _, BoxC.new w _ _, by repeat (first | with_reducible exact grownBy_refl _ _ | with_reducible assumption | with_reducible refine World.grownBy.gr_drew ?_ | with_reducible refine World.grownBy.gr_set ?_ (by simp) _ | with_reducible refine gr_alloc ?_ _)⟩⟩
  case round =>
    obtain ⟨k, L, hk, rfl, HL, HS⟩ := hrel
    have HQ := Lib.hid (show IntKind.i64.wrap ((k : Int) + 1) = (k : Int) + 1 by rw [IntKind.wrap_i64]; omega)
    obtain ⟨b0, b1, b2⟩ := boxP HS.out.box
    have hbl := lt_of_heap HS.out.box
    by_cases hlt : k < p.fns.length
    · obtain ⟨ad, ha, f0, f1, f2, f3, f4⟩ := fun_cells (HP.out.2.2.2.1.keep (CellsK.of HS.out.gr)) hlt
      have HFK := Lib.hid (HP.out.2.2.2.2 _ (List.getElem_mem hlt))
      have HFI := Lib.hid (HK.out.ins _ (List.getElem_mem hlt))
      have HFR := Lib.hid (HR.out _ (List.getElem_mem hlt))
      have HFS := Lib.hid (HK.out.small.2 _ (List.getElem_mem hlt))
      have hx := List.getElem?_eq_getElem hlt
      have HX := Lib.hid hx
      have hlk := genK_len HK.out k hk
      have HLL := Lib.hid (show L.length ≤ 16004000 * k by rw [← HL.out, List.length_map] at hlk; exact hlk)
      have HFC := Lib.hid (fun (W : World) (g : w.grownBy W none) => (fun_cells (HP.out.2.2.2.1.keep (CellsK.of g)) hlt))
      generalize p.fns[k]'hlt = f at *
      have hfc : f.code.length ≤ 4000 := HFS.out.2.2
      clear hx hlk f0 f1 f2 f3
      rw [ha]
      rw [ha] at b1
      go_wp2_with fail
      clear f4
      go_loopw [3, 5] (fun v i wr => ∃ (q : Nat) (M : List Kon), q ≤ f.code.length ∧ i = .int .i64 q ∧ Hid (M.map bare = genK p.fns k ++ codeK p.fns k f.code q) ∧ Hid (RgSt p w v M wr)) (fun v i _ => f.code.length - (intOf i).toNat)
      case atStart => exact ⟨0, L, Nat.zero_le _, rfl, Lib.hid (by rw [HL.out]; simp [codeK]), HS⟩
      case round =>
        obtain ⟨q, M, hq, rfl, HM, HT⟩ := hrel
        have HQ2 := Lib.hid (show IntKind.i64.wrap ((q : Int) + 1) = (q : Int) + 1 by rw [IntKind.wrap_i64]; omega)
        clear b0 b1 b2 hbl
        obtain ⟨b0, b1, b2⟩ := boxP HT.out.box
        have hbl := lt_of_heap HT.out.box
        obtain ⟨ad', ha', f0, f1, f2, f3, f4⟩ := HFC.out _ HT.out.gr
        rw [ha] at ha'
        injection ha' with ha'
        subst ha'
        rw [ha] at b1
        by_cases hlc : q < f.code.length
        · obtain ⟨cd, hcd, c0, c1, c2, c3, c4, c5, c6, c7⟩ := ins_cells (HFK.out.2.2.2.1.keep (CellsK.of HT.out.gr)) hlc
          have HIK := Lib.hid (HFK.out.2.2.2.2 _ (List.getElem_mem hlc))
          have HIS := Lib.hid (HFI.out _ (List.getElem_mem hlc))
          have HIR := Lib.hid (HFR.out _ (List.getElem_mem hlc))
          have hy := List.getElem?_eq_getElem hlc
          have HY := Lib.hid hy
          generalize f.code[q]'hlc = i at *
          have hll : M.length ≤ 40000000000 := by
            have h1 := codeK_len p.fns k p.fns.length HFI.out q hq
            have h2 := congrArg List.length HM.out
            rw [List.length_map, List.length_append, ← HL.out, List.length_map] at h2
            have := HFS.out
            have := HLL.out
            omega
          have HLEN := Lib.hid hll
          clear hy hll
          rw [hcd] at f4
          have HKP := Lib.hid (fun (W : World) (g : wr.grownBy W none) => (show wr.grownBy W none ∧ (W.cell? ⟨w.heap.size, 0, none⟩ = some (.slice p.sa p.sites.length p.sc) ∧ W.cell? ⟨w.heap.size, 1, none⟩ = some (.slice (some ad) p.fns.length p.fc) ∧ W.cell? ⟨w.heap.size, 2, none⟩ = some (.int .i64 p.main)) ∧ W.cell? ⟨(ad.add (k * 5)).block, (ad.add (k * 5)).off + 4, none⟩ = some (.slice (some cd) f.code.length f.cc) ∧ W.cell? (cd.add (q * 8)) = some (.int .i64 i.op) ∧ W.cell? ⟨(cd.add (q * 8)).block, (cd.add (q * 8)).off + 1, none⟩ = some (.int .i64 i.a) ∧ W.cell? ⟨(cd.add (q * 8)).block, (cd.add (q * 8)).off + 2, none⟩ = some (.int .i64 i.b) ∧ W.cell? ⟨(cd.add (q * 8)).block, (cd.add (q * 8)).off + 3, none⟩ = some (.int .i64 i.c) ∧ W.cell? ⟨(cd.add (q * 8)).block, (cd.add (q * 8)).off + 4, none⟩ = some (.int .i64 i.w) ∧ W.cell? ⟨(cd.add (q * 8)).block, (cd.add (q * 8)).off + 5, none⟩ = some (.int .i64 i.n) ∧ W.cell? ⟨(cd.add (q * 8)).block, (cd.add (q * 8)).off + 6, none⟩ = some (.string i.sign) ∧ W.cell? ⟨(cd.add (q * 8)).block, (cd.add (q * 8)).off + 7, none⟩ = some (.slice i.aa i.an i.ac) from
            have K := CellsK.of g
            ⟨g, ⟨K.2 _ _ b0, K.2 _ _ b1, K.2 _ _ b2⟩, K.2 _ _ f4, K.2 _ _ c0, K.2 _ _ c1, K.2 _ _ c2, K.2 _ _ c3, K.2 _ _ c4, K.2 _ _ c5, K.2 _ _ c6, K.2 _ _ c7⟩))
          have HIN := Lib.hid (fun (W : World) (g : wr.grownBy W none) => (show Calls Tryz.prog 21 #[.agg #[.slice p.sa p.sites.length p.sc, .slice (some ad) p.fns.length p.fc, .int .i64 p.main], .int .i64 k, .agg #[.int .i64 i.op, .int .i64 i.a, .int .i64 i.b, .int .i64 i.c, .int .i64 i.w, .int .i64 i.n, .string i.sign, .slice i.aa i.an i.ac]] W (GenRet W (consI p.fns k i)) from by
            have h := rinsn_any (w := W) (HP.out.2.2.2.1.keep (CellsK.of (grownBy_trans HT.out.gr g))) HK.out.small hlt i (HIK.out.1.keep (CellsK.of (grownBy_trans HT.out.gr g))) HIS.out HIR.out
            unfold prgV prgC insV insC at h
            rw [ha] at h
            exact h))
          go_wp2_with fail
          go_region_held3 (fun W => wr.grownBy W none ∧ (W.cell? ⟨w.heap.size, 0, none⟩ = some (.slice p.sa p.sites.length p.sc) ∧ W.cell? ⟨w.heap.size, 1, none⟩ = some (.slice (some ad) p.fns.length p.fc) ∧ W.cell? ⟨w.heap.size, 2, none⟩ = some (.int .i64 p.main)) ∧ W.cell? ⟨(ad.add (k * 5)).block, (ad.add (k * 5)).off + 4, none⟩ = some (.slice (some cd) f.code.length f.cc) ∧ W.cell? (cd.add (q * 8)) = some (.int .i64 i.op) ∧ W.cell? ⟨(cd.add (q * 8)).block, (cd.add (q * 8)).off + 1, none⟩ = some (.int .i64 i.a) ∧ W.cell? ⟨(cd.add (q * 8)).block, (cd.add (q * 8)).off + 2, none⟩ = some (.int .i64 i.b) ∧ W.cell? ⟨(cd.add (q * 8)).block, (cd.add (q * 8)).off + 3, none⟩ = some (.int .i64 i.c) ∧ W.cell? ⟨(cd.add (q * 8)).block, (cd.add (q * 8)).off + 4, none⟩ = some (.int .i64 i.w) ∧ W.cell? ⟨(cd.add (q * 8)).block, (cd.add (q * 8)).off + 5, none⟩ = some (.int .i64 i.n) ∧ W.cell? ⟨(cd.add (q * 8)).block, (cd.add (q * 8)).off + 6, none⟩ = some (.string i.sign) ∧ W.cell? ⟨(cd.add (q * 8)).block, (cd.add (q * 8)).off + 7, none⟩ = some (.slice i.aa i.an i.ac)) (first | assumption | (refine HKP.out _ ?_; (repeat (first | with_reducible exact grownBy_refl _ _ | with_reducible assumption | with_reducible refine World.grownBy.gr_drew ?_ | with_reducible refine gr_alloc ?_ _ | with_reducible refine grownBy_trans ?_ (by assumption))); done)) (first
            | (go_at_call 21; refine (HIN.out _ ?_).mono ?_; (focus repeat (first | with_reducible exact grownBy_refl _ _ | with_reducible assumption | with_reducible refine World.grownBy.gr_drew ?_ | with_reducible refine gr_alloc ?_ _ | with_reducible refine grownBy_trans ?_ (by assumption))); rintro e w2 ⟨A, c, D, rfl, hcn, hD, hKD, hbare, hg2, hfr⟩))
          all_goals
            have HG2 := Lib.hid (show wr.grownBy w2 none by repeat (first | with_reducible exact grownBy_refl _ _ | with_reducible assumption | with_reducible refine World.grownBy.gr_drew ?_ | with_reducible refine gr_alloc ?_ _ | with_reducible refine grownBy_trans ?_ (by assumption)))
            have HD := Lib.hid (show RdSt u3 A D w2 from ⟨hD, hKD, fun ad e _ e' => by have h1 := hfr ad e; have h2 := (HT.out.own.lt _ e').2; simp at h1; omega⟩)
            have HBR := Lib.hid hbare
            have HT2 := Lib.hid (HT.out.keep HG2.out)
            have hdl : D.length ≤ 4001 := by have h1 := consI_len p.fns k HIS.out; rw [← hbare, List.length_map] at h1; exact h1
            clear hD hKD hbare hg2 hfr b0 b1 b2 hbl f0 f1 f2 f3 f4 c0 c1 c2 c3 c4 c5 c6 c7 HKP HIN
            go_wp2_with fail
            go_loopw [3, 7] (fun v i wr => ∃ (r : Nat), r ≤ D.length ∧ i = .int .i64 r ∧ Hid (RgSt p w v (M ++ (D.take r).map (atK k q)) wr) ∧ Hid (RdSt v A D wr)) (fun v i _ => D.length - (intOf i).toNat)
            case atStart => exact ⟨0, Nat.zero_le _, rfl, Lib.hid (by rw [List.take_zero, List.map_nil, List.append_nil]; exact HT2.out), HD⟩
            case round =>
              obtain ⟨r, hr, rfl, HU, HE⟩ := hrel
              have HQ3 := Lib.hid (show IntKind.i64.wrap ((r : Int) + 1) = (r : Int) + 1 by rw [IntKind.wrap_i64]; omega)
              by_cases hlr : r < D.length
              · obtain ⟨da, rfl, e0, e1, e2, e3, e4, e5, e6, e7, e8⟩ := kon_cells HE.out.at_ hlr
                have hz := List.getElem?_eq_getElem hlr
                have HZ := Lib.hid hz
                have HZM := Lib.hid (List.getElem_mem hlr)
                generalize D[r]'hlr = c at *
                obtain ⟨V, d, hv, _, _⟩ := HU.out.own.at_
                have HLU := Lib.hid (show (M ++ (D.take r).map (atK k q)).length = M.length + r by rw [List.length_append, List.length_map, List.length_take]; omega)
                rw [HLU.out] at hv
                subst hv
                clear hz
                have HGA := Lib.hid (gr_alloc (gr_alloc (grownBy_refl wr none) (.cells (konC (atK k q c)) 43)) (.cells (konC (atK k q c)) 43))
                have hgz := HU.out.gr.size
                go_wp2_with (at_builtin; go_must (refine app_kon rfl (.tmp 53) (.tmp 55) rfl w.heap.size (.slice V (M.length + r) d) (M ++ (D.take r).map (atK k q)) rfl (HU.out.own.gr HGA.out) (wr.heap.size + 1) (atK k q c) (0, 0) rfl (alloc_at (by simp)) (by rw [HLU.out]; have := HLEN.out; omega) (by simp; omega) ?_; intro v5 w5 ho5 hg5 hb5; obtain ⟨A5, c5, hv5, _⟩ := ho5.out.at_; rw [List.length_append, HLU.out] at hv5; subst hv5))
                have hmp : (D.take (r + 1)).map (atK k q) = (D.take r).map (atK k q) ++ [atK k q c] := by rw [List.take_add_one, HZ.out, List.map_append]; rfl
                exact ⟨⟨r + 1, hlr, rfl, Lib.hid (by rw [hmp, ← List.append_assoc]; exact HU.out.app HGA.out ho5.out hg5.out (HE.out.args c HZM.out)), Lib.hid (HE.out.app HU.out.own HGA.out hg5.out hb5.out)⟩, by simp [intOf]; omega⟩
              · obtain rfl : r = D.length := by omega
                have HM5 := Lib.hid (show (M ++ (D.take D.length).map (atK k q)).map bare = genK p.fns k ++ codeK p.fns k f.code (q + 1) by
                  rw [List.take_length, List.map_append, HM.out, codeK_succ HY.out, List.append_assoc, ← consI_map, ← HBR.out, List.map_map, List.map_map, List.map_map]
                  rfl)
                go_wp2_with fail
                exact ⟨⟨q + 1, _, hlc, rfl, HM5, HU⟩, by simp [intOf]; omega⟩
        · obtain rfl : q = f.code.length := by omega
          go_wp2_with fail
          exact ⟨⟨k + 1, M, hlt, rfl, Lib.hid (by rw [HM.out, genK_succ HX.out]), HT⟩, by simp [intOf]; omega⟩
    · obtain rfl : k = p.fns.length := by omega
      obtain ⟨V, c0, hv, hc0, hV⟩ := HS.out.own.at_
      subst hv
      have HV := Lib.hid hV
      have HC0 := Lib.hid hc0
      clear hV hc0
      go_wp2_with fail
      go_ret
      exact ⟨V, c0, L, rfl, HC0.out, HV.out, HS.out.args, HL.out, HS.out.gr, HS.out.own.fresh⟩

end Go.Proofs.YtajmkdbokdjmeaaGreat
/- The document's Same, of lists that are alike; Ints. -/
namespace Go.Proofs.YtajmkdbokdjmeaaGreat
open Go.RowKit
theorem bare_eq {L M : List Kon} (h : L.map bare = M.map bare) : L.length = M.length ∧ ∀ (q : Nat) (x y : Kon), L[q]? = some x → M[q]? = some y → bare x = bare y := by
  refine ⟨by simpa using congrArg List.length h, fun q x y hx hy => ?_⟩
  have h1 := congrArg (·[q]?) h
  simp only [List.getElem?_map, hx, hy, Option.map_some, Option.some.injEq] at h1
  exact h1
set_option maxRecDepth 100000 in
set_option maxHeartbeats 16000000 in
theorem SameK_any (A B : Option Addr) (c d : Nat) (L M : List Kon) (w : World) (hA : StrAt konC 9 w A L) (hB : StrAt konC 9 w B M) (kA : KArgs w L) (kB : KArgs w M) (h : L.map bare = M.map bare) (hl : L.length ≤ 40000000000) (hm : ∀ c ∈ L, c.args.length ≤ 4000) :
    Calls Tryz.prog 13 #[.slice A L.length c, .slice B M.length d] w fun e w' => e = .returned (.bool true) ∧ w.grownBy w' none := by
  obtain ⟨hlen, hel⟩ := bare_eq h
  have HA := Lib.hid hA
  have HB := Lib.hid hB
  have HKA := Lib.hid kA
  have HMA := Lib.hid hm
  have HKB := Lib.hid kB
  have HEL := Lib.hid hel
  have HLEN := Lib.hid hlen
  rw [← hlen]
  clear hA hB kA kB hel h hlen hm
  go_enter Tryz.func13, Tryz.ntmps13
  go_wp2_with fail
  go_loopw [5] (fun i wr => ∃ q : Nat, q ≤ L.length ∧ i = .int .i64 q ∧ Hid (w.grownBy wr none)) (fun i _ => L.length - (intOf i).toNat)
  case atStart => exact ⟨0, Nat.zero_le _, rfl, Lib.hid (grownBy_refl _ _)⟩
  case round =>
    obtain ⟨q, hq, rfl, HG⟩ := hrel
    have HQ := Lib.hid (show IntKind.i64.wrap ((q : Int) + 1) = (q : Int) + 1 by rw [IntKind.wrap_i64]; omega)
    by_cases hlt : q < L.length
    · have hlt2 : q < M.length := by rw [← HLEN.out]; exact hlt
      obtain ⟨da, rfl, e0, e1, e2, e3, e4, e5, e6, e7, e8⟩ := kon_cells (HA.out.keep (CellsK.of HG.out)) hlt
      obtain ⟨db, rfl, g0, g1, g2, g3, g4, g5, g6, g7, g8⟩ := kon_cells (HB.out.keep (CellsK.of HG.out)) hlt2
      have hxy := HEL.out q _ _ (List.getElem?_eq_getElem hlt) (List.getElem?_eq_getElem hlt2)
      have hx := (HKA.out _ (List.getElem_mem hlt)).fr (.gr HG.out)
      have hxm := HMA.out _ (List.getElem_mem hlt)
      have hy := (HKB.out _ (List.getElem_mem hlt2)).fr (.gr HG.out)
      generalize L[q]'hlt = x at *
      generalize M[q]'hlt2 = y at *
      obtain ⟨k, a, b, n, s, o, xa, xn, xc, xs, f, p⟩ := x
      obtain ⟨k', a', b', n', s', o', ya, yn, yc, ys, f', p'⟩ := y
      simp only [bare, Kon.made.injEq] at hxy
      obtain ⟨rfl, rfl, rfl, rfl, rfl, rfl, -, -, -, rfl, rfl, rfl⟩ := hxy
      obtain rfl : xn = xs.length := hx.1
      obtain rfl : yn = xs.length := hy.1
      have HX := Lib.hid hx
      have HY := Lib.hid hy
      clear hx hy
      dsimp only at e0 e1 e2 e3 e4 e5 e6 e7 e8 g0 g1 g2 g3 g4 g5 g6 g7 g8
      have hl1 := World.block_lt_of_cell? wr _ g0
      have hl2 := World.block_lt_of_cell? wr _ g1
      go_wp2_with fail
      have HBX := Lib.hid (show BoxC #[.int .i64 k, .int .i64 a, .int .i64 b, .int .i64 n, .int .i64 s, .int .i64 o, .slice xa xs.length xc, .int .i64 f, .int .i64 p] 43 wr.heap.size ((wr.alloc (.cells #[.int .i64 k, .int .i64 a, .int .i64 b, .int .i64 n, .int .i64 s, .int .i64 o, .slice xa xs.length xc, .int .i64 f, .int .i64 p] 43)).alloc (.cells #[.int .i64 k, .int .i64 a, .int .i64 b, .int .i64 n, .int .i64 s, .int .i64 o, .slice ya xs.length yc, .int .i64 f, .int .i64 p] 43)) from alloc_keep (alloc_at rfl))
      have HBY := Lib.hid (show BoxC #[.int .i64 k, .int .i64 a, .int .i64 b, .int .i64 n, .int .i64 s, .int .i64 o, .slice ya xs.length yc, .int .i64 f, .int .i64 p] 43 (wr.heap.size + 1) ((wr.alloc (.cells #[.int .i64 k, .int .i64 a, .int .i64 b, .int .i64 n, .int .i64 s, .int .i64 o, .slice xa xs.length xc, .int .i64 f, .int .i64 p] 43)).alloc (.cells #[.int .i64 k, .int .i64 a, .int .i64 b, .int .i64 n, .int .i64 s, .int .i64 o, .slice ya xs.length yc, .int .i64 f, .int .i64 p] 43)) from alloc_at (by simp))
      have HGW := Lib.hid (show wr.grownBy ((wr.alloc (.cells #[.int .i64 k, .int .i64 a, .int .i64 b, .int .i64 n, .int .i64 s, .int .i64 o, .slice xa xs.length xc, .int .i64 f, .int .i64 p] 43)).alloc (.cells #[.int .i64 k, .int .i64 a, .int .i64 b, .int .i64 n, .int .i64 s, .int .i64 o, .slice ya xs.length yc, .int .i64 f, .int .i64 p] 43)) none by repeat (first | with_reducible exact grownBy_refl _ _ | with_reducible assumption | with_reducible refine World.grownBy.gr_drew ?_ | with_reducible refine World.grownBy.gr_set ?_ (by simp) _ | with_reducible refine gr_alloc ?_ _))
      generalize (wr.alloc _).alloc _ = W2 at *
      clear e0 e1 e2 e3 e4 e5 e6 e7 e8 g0 g1 g2 g3 g4 g5 g6 g7 g8 hl1 hl2
      have hxl : xs.length ≤ 40000000000 := by have : xs.length ≤ 4000 := hxm; omega
      generalize wr.heap.size = B at *
      go_loopw [8] (fun i wr => ∃ r : Nat, r ≤ xs.length ∧ i = .int .i64 r ∧ Hid (W2.grownBy wr none)) (fun i _ => xs.length - (intOf i).toNat)
      case atStart => exact ⟨0, Nat.zero_le _, rfl, Lib.hid (grownBy_refl _ _)⟩
      case round =>
        obtain ⟨r, hr, rfl, HG3⟩ := hrel
        have HQ3 := Lib.hid (show IntKind.i64.wrap ((r : Int) + 1) = (r : Int) + 1 by rw [IntKind.wrap_i64]; omega)
        have x6 : wr.cell? ⟨B, 6, none⟩ = some (.slice xa xs.length xc) := (HBX.out.gr HG3.out).cell rfl
        have y6 : wr.cell? ⟨B + 1, 6, none⟩ = some (.slice ya xs.length yc) := (HBY.out.gr HG3.out).cell rfl
        by_cases hlr : r < xs.length
        · have hz := List.getElem?_eq_getElem hlr
          obtain ⟨ia, rfl, i0⟩ := (HX.out.ints.keep (CellsK.of (grownBy_trans HGW.out HG3.out))).cellAt hz
          obtain ⟨ib, rfl, j0⟩ := (HY.out.ints.keep (CellsK.of (grownBy_trans HGW.out HG3.out))).cellAt hz
          generalize xs[r]'hlr = z at *
          clear hz
          go_wp2_with go_region
          exact ⟨⟨r + 1, hlr, rfl, Lib.hid (HG3.out.gr_drew)⟩, by simp [intOf]; omega⟩
        · obtain rfl : r = xs.length := by omega
          go_wp2_with fail
          exact ⟨⟨q + 1, hlt, rfl, Lib.hid (grownBy_trans HG.out (grownBy_trans HGW.out HG3.out))⟩, by simp [intOf]; omega⟩
    · obtain rfl : q = L.length := by omega
      go_wp2_with fail
      go_ret
      exact ⟨rfl, HG.out⟩

end Go.Proofs.YtajmkdbokdjmeaaGreat
/- The document: Vars, and Gen. -/
namespace Go.Proofs.YtajmkdbokdjmeaaGreat
open Go.RowKit
set_option maxRecDepth 100000 in
set_option maxHeartbeats 8000000 in
theorem rVars_any (p : Prg) (w : World) (hf : StrAt funC 5 w p.fa p.fns) (hs : SmallF p.fns) :
    Calls Tryz.prog 11 #[prgV p] w fun e w' => ∃ A c, e = .returned (.tuple #[.slice A p.fns.length c, .int .i64 (regS p.fns)]) ∧ ArgsAt w' A p.fns.length c (fstsL p.fns) ∧ w.grownBy w' none := by
  have HF := Lib.hid hf
  have HS := Lib.hid hs
  have hn := hs.1
  have HE := Lib.hid (fstK_all p.fns)
  clear hf hs
  unfold prgV prgC
  go_enter Tryz.func11, Tryz.ntmps11
  go_wp2_with fail
  go_loopw [4, 5] (fun v i wr => ∃ k : Nat, k ≤ p.fns.length ∧ i = .int .i64 k ∧ Hid (OwN w.heap.size wr v ((fstsL p.fns).take k)) ∧ Hid (BoxC (prgC p) 25 w.heap.size wr) ∧ Hid (w.grownBy wr none)) (fun v i _ => p.fns.length - (intOf i).toNat)
  case atStart => exact ⟨0, Nat.zero_le _, rfl, Lib.hid (OwN.nil _ _), Lib.hid (BoxC.new w _ _), Lib.hid (by repeat (first | with_reducible exact grownBy_refl _ _ | with_reducible assumption | with_reducible refine World.grownBy.gr_drew ?_ | with_reducible refine World.grownBy.gr_set ?_ (by simp) _ | with_reducible refine gr_alloc ?_ _))⟩
  case round =>
    obtain ⟨k, hk, rfl, HO, HB, HG⟩ := hrel
    have hlen : ((fstsL p.fns).take k).length = k := by rw [List.length_take, fstsL_len]; omega
    obtain ⟨V, d, hv, _⟩ := HO.out.args
    rw [hlen] at hv
    subst hv
    have HLEN := Lib.hid hlen
    obtain ⟨b0, b1, b2⟩ := boxP HB.out
    have hbl := lt_of_heap HB.out
    have HQ := Lib.hid (show IntKind.i64.wrap ((k : Int) + 1) = (k : Int) + 1 by rw [IntKind.wrap_i64]; omega)
    clear hlen
    have HFI := Lib.hid (show Calls Tryz.prog 19 #[.agg #[.slice p.sa p.sites.length p.sc, .slice p.fa p.fns.length p.fc, .int .i64 p.main], .int .i64 k] wr _ from First_any p wr (HF.out.keep (CellsK.of HG.out)) HS.out k hk)
    by_cases hlt : k < p.fns.length
    · generalize hfk : fstK p.fns k = s at *
      have HFK := Lib.hid hfk
      clear hfk
      go_wp2_with fail
      refine HFI.out.mono ?_
      rintro e w1 ⟨rfl, hg1⟩
      have HG1 := Lib.hid (grownBy_trans HG.out hg1)
      have HO1 := Lib.hid (HO.out.gr hg1)
      have HB1 := Lib.hid (HB.out.gr hg1)
      have hgs := HG1.out.size
      clear hg1 b0 b1 b2 hbl
      go_wp2_with (at_builtin; go_must (refine app_one rfl (.tmp 13) (.tmp 17) rfl w.heap.size (.slice V k d) ((fstsL p.fns).take k) rfl (HO1.out.gr (gr_alloc (grownBy_refl w1 none) _)) w1.heap.size s (0, 0) rfl (heap_alloc_new w1 _) (by rw [HLEN.out]; omega) (by simp; omega) ?_; intro v2 w2 ho1 hg2; obtain ⟨A1, c1', hv1, _⟩ := ho1.out.args; rw [List.length_append, HLEN.out] at hv1; subst hv1))
      refine ⟨⟨k + 1, hlt, rfl, Lib.hid ?_, Lib.hid ((hg2.out.block _ (by have := lt_of_heap HB1.out; simp; omega) (fun e => by
        obtain ⟨cs, hc⟩ : ∃ cs, w1.heap[w.heap.size]? = some (.cells cs 3 (0, 0)) := by
          rcases HO1.out.2 with ⟨e2, _⟩ | ⟨g, cap, cur, e2, _, hh, _⟩
          · rw [e2] at e; cases e
          · rw [e2] at e
            have : w.heap.size = g := by injection e
            subst this
            exact ⟨_, hh⟩
        have hb := HB1.out
        unfold BoxC at hb
        rw [hb] at hc
        injection hc with hc
        injection hc with _ h3 _
        exact absurd h3 (by decide))).trans (HB1.out.gr (gr_alloc (grownBy_refl _ _) _))), Lib.hid (gr_own (gr_alloc HG1.out _) hg2.out fun j hj => (World.ownsRow.lt HO1.out j hj).1)⟩, by simp [intOf]; omega⟩
      rw [fstsL_take hlt, HFK.out]
      exact ho1.out
    · obtain rfl : k = p.fns.length := by omega
      go_wp2_with fail
      refine HFI.out.mono ?_
      rintro e w1 ⟨rfl, hg1⟩
      have HG1 := Lib.hid (grownBy_trans HG.out hg1)
      have h1 := HO.out.gr hg1
      rw [List.take_of_length_le (by rw [fstsL_len]; exact Nat.le_refl _)] at h1
      obtain ⟨A1, c1, hv, h2⟩ := h1.args
      rw [fstsL_len] at hv h2
      injection hv with hv1 hv2 hv3
      subst hv1 hv3
      have HR := Lib.hid h2
      clear h1 h2 hg1
      go_wp2_with fail
      go_ret2
      rw [HE.out]
      exact ⟨_, _, rfl, HR.out, HG1.out⟩

end Go.Proofs.YtajmkdbokdjmeaaGreat
