/- The document's memory: Copy. -/
import Derived.Test.YtblhnjoophhliaaM38
import Derived.Deep.RegionLaw
import Derived.Deep.RegionHeld3
namespace Go.Proofs.Ytblhnjoophhliaa
open Go.RowKit
set_option maxRecDepth 100000 in
set_option maxHeartbeats 4000000 in
theorem rCopy_yes {S : Nat → Prop} {ad : Option Addr} {rs : List RB} (cap : Nat) (p q : Val) (c k j : Nat) (w : World) (h : RefAt S w ad rs) (hcl : c ≤ 4096) (hc : cutB (rsB rs) p c = some k) (hd : cutB (rsB rs) q c = some j) {y : RB} (hy : rs[j]? = some y) :
    Calls Try.prog 22 #[.slice ad rs.length cap, valV p, valV q, .int .i64 c] w fun e w' => ∃ u, e = .returned (.tuple #[u, .int .i64 0]) ∧ RefP S w w' u (layBs (rsB rs) k p.n.toNat (segL y.bytes q.n.toNat c)) ∧ w.grownBy w' none := by
  have hsm := h.small
  have HR := Lib.hid h
  have HC := Lib.hid hc
  have HD := Lib.hid hd
  have HY := Lib.hid hy
  obtain ⟨x, hx, hpb, o, hpo, hol⟩ := cutB_in hc
  obtain ⟨y', hy', hqb, o', hqo, hol'⟩ := cutB_in hd
  obtain rfl : y = y' := by rw [hy] at hy'; injection hy'
  have HX := Lib.hid hx
  have hj := (List.getElem?_eq_some_iff.1 hy).1
  obtain ⟨pn, pb, pf⟩ := p
  obtain ⟨qn, qb, qf⟩ := q
  unfold valV valC
  dsimp only at *
  subst hpb hpo hqb hqo
  rw [Int.toNat_natCast, Int.toNat_natCast]
  obtain ⟨g, rfl, hgw, _⟩ := h.cells hy
  have hyl := (h.each y (List.mem_of_getElem? hy)).2.2.1
  have HV0 := Lib.hid (P2.new w o ((k : Int) + 1) pf o' ((j : Int) + 1) qf)
  obtain ⟨i0, hi, hz0, hz1, hz2⟩ := info_parts infoByte
  clear h hc hd hx hy hy'
  have e0 : decide ((c : Int) < 0) = false := decide_eq_false (by omega)
  have e1 : decide (4096 < (c : Int)) = false := decide_eq_false (by omega)
  go_enter Try.func22, Try.ntmps22
  go_wp2_with fail
  refine (show Calls Try.prog 43 #[.slice (some ⟨g, 0, none⟩) rs.length cap, .agg #[.int .i64 o, .int .i64 ((k : Int) + 1), .int .i64 pf], .int .i64 c] _ _ from May_any cap ⟨o, (k : Int) + 1, pf⟩ c (by omega) _ (HR.out.gr HV0.out.gr)).mono ?_
  rintro e w1 ⟨rfl, g1⟩
  rw [HC.out]
  have HV1 := Lib.hid (HV0.out.grown g1)
  clear g1
  obtain ⟨x0, x1, x2, f0, f1, f2, hz⟩ := P2.r0 HV1.out
  obtain ⟨y0, y1, y2, z0, z1, z2⟩ := P2.r1 HV1.out
  go_wp2_with fail
  refine (show Calls Try.prog 43 #[.slice (some ⟨g, 0, none⟩) rs.length cap, .agg #[.int .i64 o', .int .i64 ((j : Int) + 1), .int .i64 qf], .int .i64 c] _ _ from May_any cap ⟨o', (j : Int) + 1, qf⟩ c (by omega) _ (HR.out.gr HV1.out.gr)).mono ?_
  rintro e w2 ⟨rfl, g2⟩
  rw [HD.out]
  have HV2 := Lib.hid (HV1.out.grown g2)
  clear g2 x0 x1 x2 f0 f1 f2 hz y0 y1 y2 z0 z1 z2 HV1 e0 e1
  obtain ⟨x0, x1, x2, f0, f1, f2, hz⟩ := P2.r0 HV2.out
  obtain ⟨y0, y1, y2, z0, z1, z2⟩ := P2.r1 HV2.out
  obtain ⟨g', e', hg', c0, c1, c2⟩ := (HR.out.gr HV2.out.gr).cells HY.out
  obtain rfl : g = g' := by injection e' with e'; injection e'
  have hyc := (HR.out.each y (List.mem_of_getElem? HY.out)).2.2.2.2.2
  rcases hya : y.ad with _ | ya
  · rw [hya] at c1
    have HYA := Lib.hid hya
    have hs1 : (o' : Int) + c ≤ y.cap := by omega
    have hol2 : (o' : Int) + c ≤ y.bytes.length := by omega
    have hs2 : IntKind.i64.wrap ((o' : Int) + c) = (o' : Int) + c := by rw [IntKind.wrap_i64]; omega
    have hs3 : IntKind.i64.wrap (j : Int) = (j : Int) := by rw [IntKind.wrap_i64]; omega
    have hs4 : ((o' : Int) + c).toNat = o' + c := by omega
    have hs5 : (0 : Int) ≤ (o' : Int) + c := by omega
    have HCZ := Lib.hid (show c = 0 from by
      have := (HR.out.each y (List.mem_of_getElem? HY.out)).2.2.2.2.1 hya
      omega)
    have HSE := Lib.hid (show flatC bytC (segL y.bytes o' c) = [] from by rw [HCZ.out]; unfold segL; simp [flatC])
    clear hya
    have HKP := Lib.hid (fun (W : World) (hW : w2.grownBy W none) => (show W.cell? ⟨w.heap.size + 1, 0, none⟩ = some (.int .i64 o') ∧ W.cell? ⟨w.heap.size + 1, 1, none⟩ = some (.int .i64 ((j : Int) + 1)) ∧ W.cell? ⟨g, j * 3 + 1, none⟩ = some (.slice none y.bytes.length y.cap) from
      ⟨(P2.r1 (HV2.out.grown hW)).1, (P2.r1 (HV2.out.grown hW)).2.1, by
        obtain ⟨g2, e2, _, _, d1, _⟩ := ((HR.out.gr HV2.out.gr).gr hW).cells HY.out
        obtain rfl : g = g2 := by injection e2 with e2; injection e2
        rw [HYA.out] at d1
        exact d1⟩))
    go_wp2_with fail
    go_region_held3 (fun W => W.cell? ⟨w.heap.size + 1, 0, none⟩ = some (.int .i64 o') ∧ W.cell? ⟨w.heap.size + 1, 1, none⟩ = some (.int .i64 ((j : Int) + 1)) ∧ W.cell? ⟨g, j * 3 + 1, none⟩ = some (.slice none y.bytes.length y.cap)) (exact HKP.out _ (by repeat (first | with_reducible exact grownBy_refl _ _ | with_reducible assumption | with_reducible refine World.grownBy.gr_drew ?_ | with_reducible refine World.grownBy.gr_set ?_ (by simp) _ | with_reducible refine gr_alloc ?_ _))) (first | (refine step_append_nilcap rfl (.tmp 32) (.tmp 46) 55 rfl w2.heap.size 67 i0 5 c (y.cap - o') HCZ.out Try.underlying55 hi (.slice (some ⟨w2.heap.size, 0, none⟩) 0 0) 0 [] rfl ⟨rfl, .inr ⟨w2.heap.size, 0, _, rfl, Nat.le_refl _, heap_alloc_new w2 (.cells #[] 67), Nat.le_refl _, by unfold maxLen; omega, rfl, rfl⟩⟩ (by simp [Act.eval]) ?_; intro v' w4 ho hg; replace ho : w4.ownsRow w2.heap.size 67 5 v' c (flatC bytC (segL y.bytes o' c)) := (by rw [HSE.out, HCZ.out]; exact ho); obtain ⟨la, lc, rfl, _, _⟩ := own_form ho; have HO := Lib.hid ho; have hg0 : w2.grownBy w4 none := gr_far (B := w2.heap.size) (show w2.grownBy (w2.alloc (.cells #[] 67)).drew none from (gr_alloc (grownBy_refl w2 none) _).gr_drew) hg (Nat.le_refl _) (fun q hq => Nat.le_of_eq (by injection hq)); have HG := Lib.hid hg; clear ho hg))
    have HG4 := Lib.hid (gr_far (B := w2.heap.size) (show w.grownBy (w2.alloc (.cells #[] 67)).drew none from (grownBy_trans HV2.out.gr (gr_alloc (grownBy_refl w2 none) _)).gr_drew) HG.out HV2.out.gr.size (fun q hq => Nat.le_of_eq (by injection hq)))
    have hln : (segL y.bytes o' c).length = c := seg_len (by omega)
    have hO := HO.out
    have hL := Lay_any cap lc ⟨o, (k : Int) + 1, pf⟩ (segL y.bytes o' c) w4 (HR.out.gr HG4.out) (k := k) (o := o) HX.out rfl rfl (by rw [hln]; exact hol) (own_rd (B := w2.heap.size) (c := lc) (by rw [hln]; exact hO)) (seg_byts (HR.out.each y (List.mem_of_getElem? HY.out)).2.2.2.1 _ _)
    unfold valV valC at hL
    rw [hln] at hL
    have HL := Lib.hid hL
    clear hL hO hln hs1 hs2 hs3 hs4 hs5 hol2 hyc hyl hol' hol x0 x1 x2 f0 f1 f2 hz y0 y1 y2 z0 z1 z2 c0 c1 c2
    have HV4 := Lib.hid (P2.far (HV2.out.grown (gr_alloc (grownBy_refl w2 none) (.cells #[] 67))) (show (w2.alloc (.cells #[] 67)).grownBy w4 (some w2.heap.size) from ⟨HG.out.os, HG.out.tape, HG.out.output, HG.out.size, HG.out.block⟩) (fun q hq => Nat.le_trans (Nat.succ_le_of_lt (lt_of_heap HV2.out.b1)) (Nat.le_of_eq (by injection hq))))
    obtain ⟨x0, x1, x2, f0, f1, f2, hz⟩ := P2.r0 HV4.out
    go_wp2_with fail
    refine HL.out.mono ?_
    rintro e w5 ⟨u, rfl, h5, g5⟩
    have H5 := Lib.hid (RefP.pre HG4.out HR.out.lt g5 h5)
    have HG5 := Lib.hid (grownBy_trans HG4.out g5)
    clear h5 g5
    go_wp2_with fail
    go_ret2
    exact ⟨u, rfl, H5.out, HG5.out⟩

  · rw [hya] at c1
    have HYA := Lib.hid hya
    have hs1 : (o' : Int) + c ≤ y.cap := by omega
    have hol2 : (o' : Int) + c ≤ y.bytes.length := by omega
    have hs2 : IntKind.i64.wrap ((o' : Int) + c) = (o' : Int) + c := by rw [IntKind.wrap_i64]; omega
    have hs3 : IntKind.i64.wrap (j : Int) = (j : Int) := by rw [IntKind.wrap_i64]; omega
    have hs4 : ((o' : Int) + c).toNat = o' + c := by omega
    have hs5 : (0 : Int) ≤ (o' : Int) + c := by omega
    obtain ⟨sa, hsa, hnews⟩ : ∃ sa, (if y.cap = o' then some ya else some (ya.add (o' * 5))) = some sa ∧ ∀ i u, (flatC bytC (segL y.bytes o' c))[i]? = some u → w2.cell? (sa.add i) = some u := by
      have hr : RdAt w2 (some ya) y.bytes := (hya ▸ (HR.out.each y (List.mem_of_getElem? HY.out)).1 : RdAt w (some ya) y.bytes).gr HV2.out.gr
      exact seg_src hr (by omega) hyc
    have HSA := Lib.hid hsa
    have HNW := Lib.hid hnews
    clear hnews hya
    have HKP := Lib.hid (fun (W : World) (hW : w2.grownBy W none) => (show W.cell? ⟨w.heap.size + 1, 0, none⟩ = some (.int .i64 o') ∧ W.cell? ⟨w.heap.size + 1, 1, none⟩ = some (.int .i64 ((j : Int) + 1)) ∧ W.cell? ⟨g, j * 3 + 1, none⟩ = some (.slice (some ya) y.bytes.length y.cap) from
      ⟨(P2.r1 (HV2.out.grown hW)).1, (P2.r1 (HV2.out.grown hW)).2.1, by
        obtain ⟨g2, e2, _, _, d1, _⟩ := ((HR.out.gr HV2.out.gr).gr hW).cells HY.out
        obtain rfl : g = g2 := by injection e2 with e2; injection e2
        rw [HYA.out] at d1
        exact d1⟩))
    go_wp2_with fail
    go_region_held3 (fun W => W.cell? ⟨w.heap.size + 1, 0, none⟩ = some (.int .i64 o') ∧ W.cell? ⟨w.heap.size + 1, 1, none⟩ = some (.int .i64 ((j : Int) + 1)) ∧ W.cell? ⟨g, j * 3 + 1, none⟩ = some (.slice (some ya) y.bytes.length y.cap)) (exact HKP.out _ (by repeat (first | with_reducible exact grownBy_refl _ _ | with_reducible assumption | with_reducible refine World.grownBy.gr_drew ?_ | with_reducible refine World.grownBy.gr_set ?_ (by simp) _ | with_reducible refine gr_alloc ?_ _))) (first | (refine step_append_own rfl (.tmp 32) (.tmp 46) 55 rfl w2.heap.size 67 i0 _ 5 40 Try.underlying55 hi hz0 hz1 hz2 rfl (by decide) (.slice (some ⟨w2.heap.size, 0, none⟩) 0 0) 0 [] rfl ⟨rfl, .inr ⟨w2.heap.size, 0, _, rfl, Nat.le_refl _, heap_alloc_new w2 (.cells #[] 67), Nat.le_refl _, by unfold maxLen; omega, rfl, rfl⟩⟩ sa c (y.cap - o') (flatC bytC (segL y.bytes o' c)) (by simp [Act.eval]) (by rw [flat_len bytC_size, seg_len (by omega)]) (fun i u hu => cell_keep _ (HNW.out i u hu)) (flat_one bytC_one _) (by unfold maxLen; omega) (by omega) (by show w2.heap.size ≤ (w2.alloc _).heap.size; simp only [World.size_alloc]; omega) ?_; intro v' w4 ho hg; replace ho : w4.ownsRow w2.heap.size 67 5 v' c (flatC bytC (segL y.bytes o' c)) := (by simpa using ho); obtain ⟨la, lc, rfl, _, _⟩ := own_form ho; have HO := Lib.hid ho; have hg0 : w2.grownBy w4 none := gr_far (B := w2.heap.size) (show w2.grownBy (w2.alloc (.cells #[] 67)).drew none from (gr_alloc (grownBy_refl w2 none) _).gr_drew) hg (Nat.le_refl _) (fun q hq => Nat.le_of_eq (by injection hq)); have HG := Lib.hid hg; clear ho hg))
    have HG4 := Lib.hid (gr_far (B := w2.heap.size) (show w.grownBy (w2.alloc (.cells #[] 67)).drew none from (grownBy_trans HV2.out.gr (gr_alloc (grownBy_refl w2 none) _)).gr_drew) HG.out HV2.out.gr.size (fun q hq => Nat.le_of_eq (by injection hq)))
    have hln : (segL y.bytes o' c).length = c := seg_len (by omega)
    have hO := HO.out
    have hL := Lay_any cap lc ⟨o, (k : Int) + 1, pf⟩ (segL y.bytes o' c) w4 (HR.out.gr HG4.out) (k := k) (o := o) HX.out rfl rfl (by rw [hln]; exact hol) (own_rd (B := w2.heap.size) (c := lc) (by rw [hln]; exact hO)) (seg_byts (HR.out.each y (List.mem_of_getElem? HY.out)).2.2.2.1 _ _)
    unfold valV valC at hL
    rw [hln] at hL
    have HL := Lib.hid hL
    clear hL hO hln hs1 hs2 hs3 hs4 hs5 hol2 hyc hyl hol' hol x0 x1 x2 f0 f1 f2 hz y0 y1 y2 z0 z1 z2 c0 c1 c2 hsa
    have HV4 := Lib.hid (P2.far (HV2.out.grown (gr_alloc (grownBy_refl w2 none) (.cells #[] 67))) (show (w2.alloc (.cells #[] 67)).grownBy w4 (some w2.heap.size) from ⟨HG.out.os, HG.out.tape, HG.out.output, HG.out.size, HG.out.block⟩) (fun q hq => Nat.le_trans (Nat.succ_le_of_lt (lt_of_heap HV2.out.b1)) (Nat.le_of_eq (by injection hq))))
    obtain ⟨x0, x1, x2, f0, f1, f2, hz⟩ := P2.r0 HV4.out
    go_wp2_with fail
    refine HL.out.mono ?_
    rintro e w5 ⟨u, rfl, h5, g5⟩
    have H5 := Lib.hid (RefP.pre HG4.out HR.out.lt g5 h5)
    have HG5 := Lib.hid (grownBy_trans HG4.out g5)
    clear h5 g5
    go_wp2_with fail
    go_ret2
    exact ⟨u, rfl, H5.out, HG5.out⟩

end Go.Proofs.Ytblhnjoophhliaa
