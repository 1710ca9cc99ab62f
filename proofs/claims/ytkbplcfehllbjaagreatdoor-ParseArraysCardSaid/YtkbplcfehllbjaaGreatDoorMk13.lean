/- Merged: Q39, Q40. -/
import Derived.Test.YtkbplcfehllbjaaGreatDoorMk12
/- function. -/
namespace Go.Proofs.YtkbplcfehllbjaaGreatDoor
open Go.RowKit
attribute [local go_sem ↓] Go.wp_at_zero Go.wp_at_succ
set_option maxRecDepth 100000 in
set_option maxHeartbeats 8000000 in
theorem function_any (C : Ctx) (d : Nat) (R R1 : Rec) (hd60 : d < 60) (L : Lev C d R) (L1' : Lev C (d + 1) R1) (hsl : ∀ ts a r, declP R ts = .ok a r → SlimT a.typ) (t : Ty) (ofv : Value) (B : Nat) (X : List Nat) (hbB : C.bp < B) (w : World) (i : Nat) (h : Pr C w i d) (hr : RepOf w (Sx B X) ofv t.of) :
    Calls Tryz.prog 56 #[C.p, tyV t ofv] w (Out C w d (functionP R R1 t (C.toks.drop i)) (itemPost (Sx B X) w.heap.size)) := by
  obtain ⟨sa, sn, sc, rfl⟩ := hr.isSlice
  have HP := Lib.hid h.at
  have hbp := lt_of_heap h.blk
  have hlen := h.len
  have HX := Lib.hid (decl_any C d R L)
  have HSh := Lib.hid (Shr.decl L.shr)
  have HR := Lib.hid hr.sw
  have HbB := Lib.hid hbB
  have HSl := Lib.hid hsl
  have HBk := Lib.hid (block_any C (d + 1) R1 L1')
  have hp : C.p = .pointer (some ⟨C.bp, 0, none⟩) := rfl
  unfold functionP
  have HNm := Lib.hid (fun w' (h' : Pr C w' i d) => name_any C w' i d h')
  generalize hR1 : nameP (C.toks.drop i) = Rn at *
  clear h L hr hsl L1'
  unfold tyV
  go_enter Tryz.func56, Tryz.ntmps56
  go_wp2_with fail
  have HA0 := Lib.hid ((HP.out.alloc (.cells #[.int .i64 t.kind, .int .i64 t.num, .string ⟨t.name.toArray⟩, .slice sa sn sc] 25 (0, 0))).alloc (.cells #[.int .i64 0, .string ⟨#[]⟩, .int .i64 0, .int .i64 0, .int .i64 0, .string ⟨#[]⟩, .slice none 0 0, .slice none 0 0] 28))
  have B0 := Lib.hid (blk_alloc (blk_new w (.cells #[.int .i64 t.kind, .int .i64 t.num, .string ⟨t.name.toArray⟩, .slice sa sn sc] 25 (0, 0))) (.cells #[.int .i64 0, .string ⟨#[]⟩, .int .i64 0, .int .i64 0, .int .i64 0, .string ⟨#[]⟩, .slice none 0 0, .slice none 0 0] 28))
  have N0 := Lib.hid (blk_new2 w (.cells #[.int .i64 t.kind, .int .i64 t.num, .string ⟨t.name.toArray⟩, .slice sa sn sc] 25 (0, 0)) (.cells #[.int .i64 0, .string ⟨#[]⟩, .int .i64 0, .int .i64 0, .int .i64 0, .string ⟨#[]⟩, .slice none 0 0, .slice none 0 0] 28))
  refine (HNm.out _ HA0.out.pr).mono ?_
  rcases Rn with ⟨nm, r⟩ | ⟨p, er⟩
  rotate_left
  · rintro e w1 ⟨hg, i1, d1, rfl, hdd, hp1⟩
    exact ⟨rfl, (HA0.out.turn hg hp1).errOut rfl⟩
  rintro e w1 ⟨hg, v1, i1, rfl, hv, hp1, rfl⟩
  have hv' : v1 = .string ⟨nm.toArray⟩ := hv
  subst hv'
  have hz1 := hg.size
  simp at hz1
  have hi1 := hp1.lt
  have HA1 := Lib.hid ((HA0.out.turn hg hp1).alloc (.cells #[.int .i64 22, .string ⟨nm.toArray⟩, .int .i64 0, .int .i64 0, .int .i64 0, .string ⟨#[]⟩, .slice none 0 0, .slice none 0 0] 28 (0, 0)))
  have B1 := Lib.hid (blk_alloc (blk_call B0.out hg (by simp; omega)) (.cells #[.int .i64 22, .string ⟨nm.toArray⟩, .int .i64 0, .int .i64 0, .int .i64 0, .string ⟨#[]⟩, .slice none 0 0, .slice none 0 0] 28 (0, 0)))
  have Z1 := Lib.hid (blk_alloc (blk_call N0.out hg (by simp; omega)) (.cells #[.int .i64 22, .string ⟨nm.toArray⟩, .int .i64 0, .int .i64 0, .int .i64 0, .string ⟨#[]⟩, .slice none 0 0, .slice none 0 0] 28 (0, 0)))
  have N1 := Lib.hid (blk_new w1 (.cells #[.int .i64 22, .string ⟨nm.toArray⟩, .int .i64 0, .int .i64 0, .int .i64 0, .string ⟨#[]⟩, .slice none 0 0, .slice none 0 0] 28 (0, 0)))
  have hzL : (w1.alloc (.cells #[.int .i64 22, .string ⟨nm.toArray⟩, .int .i64 0, .int .i64 0, .int .i64 0, .string ⟨#[]⟩, .slice none 0 0, .slice none 0 0] 28 (0, 0))).heap.size = w1.heap.size + 1 := by simp
  clear hg hp1 hv HA0 B0 N0 HP HNm
  have hZ : w.heap.size + 1 < w1.heap.size := by omega
  go_wp2_with fail
  generalize w1.alloc (.cells #[.int .i64 22, .string ⟨nm.toArray⟩, .int .i64 0, .int .i64 0, .int .i64 0, .string ⟨#[]⟩, .slice none 0 0, .slice none 0 0] 28 (0, 0)) = w1a at *
  generalize w1.heap.size = L1 at *
  have hLb : ¬ L1 = C.bp := by omega
  have HLs := Lib.hid (listN_grow C (declP R) HSh.out.shrinks w1a i1 d HX.out HA1.out.pr)
  have HAll := Lib.hid (fun l r (e : listP (declP R) (C.toks.drop i1) = .ok l r) => listP_all (p := fun a => SlimT a.typ) (fun ts a r e => HSl.out ts a r e) e)
  have HLl := Lib.hid (fun l r (e : listP (declP R) (C.toks.drop i1) = .ok l r) => listP_len e)
  generalize hR2 : listP (declP R) (C.toks.drop i1) = R2 at *
  have HE2 := Lib.hid hR2
  clear hR1 hR2
  refine HLs.out.mono ?_
  rcases R2 with ⟨ps, r⟩ | ⟨p, er⟩
  rotate_left
  · rintro e w2 ⟨hg, i2, d2, rfl, hdd, hp1⟩
    exact ⟨rfl, (HA1.out.turn hg hp1).errOut (by rw [PR.bind_ok, HE2.out]; rfl)⟩
  rintro e w2 ⟨hg, v2, i2, rfl, ⟨⟨ka, kn, kc, rfl⟩, cellsK, hgk⟩, hp1, rfl⟩
  have hz2 := hg.size
  have HA2 := Lib.hid (HA1.out.turn hg hp1)
  have B2 := Lib.hid (blk_call B1.out hg (by simp; omega))
  have Z2 := Lib.hid (blk_call Z1.out hg (by simp; omega))
  have N2 := Lib.hid (blk_call N1.out hg (by simp; omega))
  have HGk := Lib.hid hgk
  have hps : ps.length ≤ 20001 := by have h1 := HLl.out ps _ rfl; rw [List.length_drop] at h1; omega
  have hsl := Lib.hid (HAll.out ps _ rfl)
  obtain ⟨⟨q0, q1, q2, q3, q4, q5, q6, q7⟩, f0, f1, f2, f3, f4, f5, f6, f7⟩ := cells8_of w2 L1 _ _ _ _ _ _ _ _ _ N2.out
  obtain ⟨b0, b1, b2, b3, _⟩ := cells4_of w2 w.heap.size _ _ _ _ _ B2.out
  have hzw : w.heap.size < w2.heap.size := by omega
  have hzl : L1 < w2.heap.size := by omega
  have hne1 : ¬ w.heap.size = L1 := by omega
  have hne2 : ¬ L1 = w.heap.size := by omega
  clear hg hp1 hgk HLs HA1 B1 Z1 N1 HAll HLl
  have hkn : kn = ps.length ∧ (ps.length = 0 ∨ ∃ g, ka = some ⟨g, 0, none⟩) := by
    rcases HGk.out.1.2 with ⟨e, h0⟩ | ⟨g, cap, cur, e, _⟩
    · simp only [Value.slice.injEq] at e; exact ⟨by omega, .inl h0⟩
    · simp only [Value.slice.injEq] at e; exact ⟨e.2.1, .inr ⟨g, e.1⟩⟩
  obtain ⟨rfl, hka⟩ := hkn
  go_wp2_with fail
  have F0 : FnAt C w i2 d (w.heap.size + 1) L1 w2.heap.size nm B X [t] w2.heap.size 1 (tyC t (.slice sa sn sc)) (.slice ka ps.length kc) ps cellsK
      ((((((w2.setCell ⟨L1, 7, none⟩ (.slice ka ps.length kc)).setCell ⟨L1, 3, none⟩ (.int .i64 9)).setCell ⟨L1, 4, none⟩ (.int .i64 0)).setCell ⟨L1, 5, none⟩ (.string ⟨#[]⟩)).setCell ⟨L1, 6, none⟩ (.slice (some ⟨w2.heap.size, 0, none⟩) 1 1)).alloc (.cells #[.int .i64 t.kind, .int .i64 t.num, .string ⟨t.name.toArray⟩, .slice sa sn sc] 25 (0, 0))) := by
    have K : KeepsOn (fun k => k ≠ L1) w2 (((((w2.setCell ⟨L1, 7, none⟩ (.slice ka ps.length kc)).setCell ⟨L1, 3, none⟩ (.int .i64 9)).setCell ⟨L1, 4, none⟩ (.int .i64 0)).setCell ⟨L1, 5, none⟩ (.string ⟨#[]⟩)).setCell ⟨L1, 6, none⟩ (.slice (some ⟨w2.heap.size, 0, none⟩) 1 1)) :=
      ((((KeepsOn.setCell (p := ⟨L1, 7, none⟩) (by simp) _).trans (KeepsOn.setCell (p := ⟨L1, 3, none⟩) (by simp) _)).trans (KeepsOn.setCell (p := ⟨L1, 4, none⟩) (by simp) _)).trans (KeepsOn.setCell (p := ⟨L1, 5, none⟩) (by simp) _)).trans (KeepsOn.setCell (p := ⟨L1, 6, none⟩) (by simp) _)
    have A5 := ((((HA2.out.set (p := ⟨L1, 7, none⟩) (by show _ ≤ L1; omega) (.slice ka ps.length kc)).set (p := ⟨L1, 3, none⟩) (by show _ ≤ L1; omega) (.int .i64 9)).set (p := ⟨L1, 4, none⟩) (by show _ ≤ L1; omega) (.int .i64 0)).set (p := ⟨L1, 5, none⟩) (by show _ ≤ L1; omega) (.string ⟨#[]⟩)).set (p := ⟨L1, 6, none⟩) (by show _ ≤ L1; omega) (.slice (some ⟨w2.heap.size, 0, none⟩) 1 1)
    have hn5 : (((((w2.setCell ⟨L1, 7, none⟩ (.slice ka ps.length kc)).setCell ⟨L1, 3, none⟩ (.int .i64 9)).setCell ⟨L1, 4, none⟩ (.int .i64 0)).setCell ⟨L1, 5, none⟩ (.string ⟨#[]⟩)).setCell ⟨L1, 6, none⟩ (.slice (some ⟨w2.heap.size, 0, none⟩) 1 1)).heap[L1]? = some (.cells #[.int .i64 22, .string ⟨nm.toArray⟩, .int .i64 0, .int .i64 9, .int .i64 0, .string ⟨#[]⟩, .slice (some ⟨w2.heap.size, 0, none⟩) 1 1, .slice ka ps.length kc] 28 (0, 0)) := by
      have h0 := N2.out
      simp [World.setCell, Array.getElem?_modify, h0]
    have hs5 : (((((w2.setCell ⟨L1, 7, none⟩ (.slice ka ps.length kc)).setCell ⟨L1, 3, none⟩ (.int .i64 9)).setCell ⟨L1, 4, none⟩ (.int .i64 0)).setCell ⟨L1, 5, none⟩ (.string ⟨#[]⟩)).setCell ⟨L1, 6, none⟩ (.slice (some ⟨w2.heap.size, 0, none⟩) 1 1)).heap.size = w2.heap.size := by simp [World.setCell]
    generalize (((((w2.setCell ⟨L1, 7, none⟩ (.slice ka ps.length kc)).setCell ⟨L1, 3, none⟩ (.int .i64 9)).setCell ⟨L1, 4, none⟩ (.int .i64 0)).setCell ⟨L1, 5, none⟩ (.string ⟨#[]⟩)).setCell ⟨L1, 6, none⟩ (.slice (some ⟨w2.heap.size, 0, none⟩) 1 1)) = w5 at *
    have hnew := blk_new w5 (.cells #[.int .i64 t.kind, .int .i64 t.num, .string ⟨t.name.toArray⟩, .slice sa sn sc] 25 (0, 0))
    rw [hs5] at hnew
    have hR5 := (HR.out.far HA2.out.gr HbB.out).mono (w' := w5.alloc (.cells #[.int .i64 t.kind, .int .i64 t.num, .string ⟨t.name.toArray⟩, .slice sa sn sc] 25 (0, 0))) (S' := fun g => (Sw (Sx B X) w g ∨ w2.heap.size ≤ g) ∧ g ≠ w2.heap.size) (fun g hs _ => ⟨.inl hs, by have := hs.2; omega⟩) (fun g hs hg => (Below.heap_alloc _ _ _ (by omega)).trans (K.2 g (by have := hs.2; omega) hg))
    refine ⟨A5.alloc _, blk_alloc ((K.2 _ (by omega) (lt_of_heap Z2.out)).trans Z2.out) _, blk_alloc hn5 _, ⟨rfl, .inr ⟨w2.heap.size, 1, _, rfl, Nat.le_refl _, hnew, Nat.le_refl _, by unfold maxLen; omega, rfl, rfl⟩⟩, ⟨tyC t (.slice sa sn sc), [], by simp, RepT.of hR5, rfl⟩, ?_, ?_, ?_⟩
    · have h1 := HGk.out.1
      rw [hzL] at h1
      exact ownsRow_same h1 (fun g hg => (Below.heap_alloc _ _ _ (by have := (h1.lt g hg).2; omega)).trans (K.2 g (by have := (h1.lt g hg).1; omega) (h1.lt g hg).2))
    · exact RepNl.mono (fun g hs hl => ⟨by have := hs.1; omega, hl, hs.2⟩) (fun g hs hg => (Below.heap_alloc _ _ _ (by omega)).trans (K.2 g (by have := hs.1; omega) hg)) _ _ HGk.out.2
    · intro g hg
      exact (HGk.out.1.lt g hg).2
  have hH1 : L1 < w2.heap.size := hzl
  have FH := Lib.hid F0
  clear F0
  generalize ((((((w2.setCell ⟨L1, 7, none⟩ (.slice ka ps.length kc)).setCell ⟨L1, 3, none⟩ (.int .i64 9)).setCell ⟨L1, 4, none⟩ (.int .i64 0)).setCell ⟨L1, 5, none⟩ (.string ⟨#[]⟩)).setCell ⟨L1, 6, none⟩ (.slice (some ⟨w2.heap.size, 0, none⟩) 1 1)).alloc (.cells #[.int .i64 t.kind, .int .i64 t.num, .string ⟨t.name.toArray⟩, .slice sa sn sc] 25 (0, 0))) = w3 at *
  clear q0 q1 q2 q3 q4 q5 q6 q7 f0 f1 f2 f3 f4 f5 f6 f7 b0 b1 b2 b3 HA2 B2 Z2 N2 HGk HR
  obtain ⟨i0, hi, hz0, hz1', hz2'⟩ := info_parts infoTy
  go_loopg [23] ps.length (fun g i wr => ∃ (k tg tc : Nat) (tl : List Ty) (tcells : List Value), g = ps.length - k ∧ k ≤ ps.length ∧ i = .int .i64 (k : Int) ∧ Hid (tl = t :: (ps.take k).map Nd.typ) ∧ Hid (tl.length = k + 1) ∧
    Hid (FnAt C w i2 d (w.heap.size + 1) L1 w2.heap.size nm B X tl tg tc tcells (.slice ka ps.length kc) ps cellsK wr))
  case atStart => exact ⟨0, _, 1, [t], _, by simp, Nat.zero_le _, rfl, rfl, rfl, FH.out⟩
  case round =>
    obtain ⟨k, tg, tc, tl, tcells, rfl, hk, rfl, htl, hlt, hF⟩ := hrel
    have hzr := lt_of_heap hF.out.n
    have hzz := hF.out.z
    by_cases hkl : k = ps.length
    · obtain rfl := hkl
      have hltf : decide ((ps.length : Int) < (ps.length : Int)) = false := by simp
      have htl2 := Lib.hid (show tl = t :: ps.map Nd.typ by rw [htl.out, List.take_length])
      go_wp2_with fail
      refine (enter_yes C _ i2 d hF.out.pos.pr hd60).mono ?_
      rintro e w4 ⟨rfl, hg, hp4⟩
      have HF4 := Lib.hid (hF.out.turn hg hp4 HbB.out (by omega) (by omega) hH1)
      have hi4 := hp4.lt
      obtain ⟨⟨q0, q1, q2, q3, q4, q5, q6, q7⟩, _⟩ := cells8_of w4 L1 _ _ _ _ _ _ _ _ _ HF4.out.n
      have hz4 : L1 < w4.heap.size := lt_of_heap HF4.out.n
      have hT4 : w2.heap.size ≤ w4.heap.size := by have := (HF4.out.tr.lt tg rfl); omega
      obtain ⟨j0, hj, hy0, hy1, hy2⟩ := info_parts infoNd
      have hmax : ps.length + 1 ≤ maxLen := by unfold maxLen; omega
      have hbytes : (ps.length + 1) * 112 ≤ 140737488355328 := by omega
      generalize hR5 : blockP R1 (C.toks.drop i2) = R5 at *
      have HE5 := Lib.hid hR5
      have HB5 := Lib.hid (fun w' h' => (show Calls Tryz.prog 76 #[C.p] w' (Out C w' (d + 1) R5 (fun t => ndVal t w')) by rw [← hR5]; exact HBk.out w' i2 h'))
      clear hg hp4 hR5 hF hzz
      go_wp2_with fail
      go_region_law (first
        | (refine step_append_lies _ rfl (.tmp 41) (.tmp 44) 26 rfl (L1 + 1) 28 j0 _ 8 112 Tryz.underlying26 hj hy0 hy1 hy2 rfl (by decide) _ ps.length cellsK rfl (HF.out.grown (gr_alloc (grownBy_refl _ _) _)).kr ⟨wc.heap.size, 0, none⟩ 1 1 (ndC b (.slice da dn dc) (.slice ea en ec)) rfl rfl (cells_at _ _ _ _) (ndC_ones _ _ _ _ _ _ _) (by omega) hmax hbytes (by simp; omega) (wc.heap.size + 1) (by simp) ?_; intro gg cap w6 hown' hgrow hat' hlt'; have HM := Lib.hid (FnAt.last (b := b) (ofv := .slice da dn dc) (kb := .slice ea en ec) (HF.out.grown (gr_alloc (grownBy_refl _ _) _)) (by omega) (by omega) hH1 ((HOb.out.grow (gr_alloc (grownBy_refl _ _) _)).mono (fun g hs hg => by have h7 := (show w4.heap.size ≤ g by simpa using hs); show w2.heap.size ≤ g; omega) (fun _ _ _ => rfl)) ((HKb.out.grow (gr_alloc (grownBy_refl _ _) _)).mono (fun g hs hg => by have h7 := (show w4.heap.size ≤ g by simpa using hs); show w2.heap.size ≤ g; omega) (fun _ _ _ => rfl)) hown' hgrow hat' (by simp)); obtain ⟨⟨s0, s1, s2, s3, s4, s5, s6, s7⟩, e0, e1, e2, e3, e4, e5, e6, e7⟩ := cells8_of w6 L1 _ _ _ _ _ _ _ _ _ (blk_call (HF.out.grown (gr_alloc (grownBy_refl _ _) _)).n hgrow (fun e => by have h8 := (HF.out.kr.lt L1 e).1; omega)); have hz6 := hgrow.size; simp at hz6; have z6 : L1 < w6.heap.size := (by omega); clear hown' hgrow hat' hlt')
        | (go_simp; go_at_call 76; refine (HB5.out _ HF4.out.pos.drew.pr).mono ?_; rcases R5 with ⟨b, r5⟩ | ⟨p, er⟩; rotate_left; (rintro e wc ⟨hg, i5, d5, rfl, hdd, hp5⟩; exact ⟨rfl, (HF4.out.pos.drew.turn hg hp5).errOut (by rw [PR.bind_ok, HE2.out, PR.bind_ok, HE5.out]; rfl)⟩); rintro e wc ⟨hg, v5, i5, rfl, ⟨ofm, km, rfl, hof, hkm⟩, hp5, hd5⟩; obtain ⟨da, dn, dc, rfl⟩ := hof.isSlice; obtain ⟨ea, en, ec, rfl⟩ := hkm.isSlice; have HF := Lib.hid ((HF4.out.grown (grownBy_refl w4 none).gr_drew).turn hg hp5 HbB.out (by omega) (by omega) hH1); have HOb := Lib.hid hof; have HKb := Lib.hid hkm; have HD5 := Lib.hid hd5; obtain ⟨⟨p0, p1, p2, p3, p4, p5, p6, p7⟩, _⟩ := cells8_of wc L1 _ _ _ _ _ _ _ _ _ HF.out.n; have hz5 : L1 < wc.heap.size := lt_of_heap HF.out.n; have hT5 : w2.heap.size ≤ wc.heap.size := (by have := (HF.out.tr.lt tg rfl); omega); clear hg hp5 hof hkm hd5; unfold ndV))
      all_goals
        go_wp2_with fail
        refine (leave_any C _ _ d HM.out.1.pr).mono ?_
        rintro e w7 ⟨rfl, hg, hp7⟩
        have HA7 := Lib.hid (HM.out.1.turn hg hp7)
        have Z7 := Lib.hid (blk_call HM.out.2.1 hg (by simp; omega))
        have N7 := Lib.hid (blk_call HM.out.2.2.1 hg (by simp; omega))
        have HT7 := Lib.hid (HM.out.2.2.2.1.mono (S' := fun k => Sw (Sx B X) w k ∨ w2.heap.size ≤ k) (fun _ hs _ => hs) (fun k hs hk => hg.block k hk (by have := HbB.out; rcases hs with e | e; have := e.1.1; simp; omega; simp; omega)))
        have HK7 := Lib.hid (HM.out.2.2.2.2.mono (S' := fun k => L1 + 1 ≤ k) (fun _ hs _ => hs) (fun k hs hk => hg.block k hk (by have h7 : L1 + 1 ≤ k := hs; simp; omega)))
        obtain ⟨⟨m0, m1, m2, m3, m4, m5, m6, m7⟩, _⟩ := cells8_of w7 L1 _ _ _ _ _ _ _ _ _ N7.out
        obtain ⟨⟨l0, l1, l2, l3, l4, l5, l6, l7⟩, g0, g1, g2, g3, g4, g5, g6, g7⟩ := cells8_of w7 (w.heap.size + 1) _ _ _ _ _ _ _ _ _ Z7.out
        have z7 : w.heap.size + 1 < w7.heap.size := lt_of_heap Z7.out
        have z8 : L1 < w7.heap.size := lt_of_heap N7.out
        clear hg hp7
        go_wp2_with fail
        have N9 := blk_put8 Z7.out (.int .i64 22) (.string ⟨nm.toArray⟩) (.int .i64 0) (.int .i64 9) (.int .i64 0) (.string ⟨#[]⟩) (.slice (some ⟨tg, 0, none⟩) tl.length tc) (.slice (some ⟨gg, 0, none⟩) (ps.length + 1) cap)
        have K9 := keepsOn8 (S := fun g => g < w.heap.size ∨ L1 + 1 ≤ g) w7 (b := w.heap.size + 1) (by omega) (.int .i64 22) (.string ⟨nm.toArray⟩) (.int .i64 0) (.int .i64 9) (.int .i64 0) (.string ⟨#[]⟩) (.slice (some ⟨tg, 0, none⟩) tl.length tc) (.slice (some ⟨gg, 0, none⟩) (ps.length + 1) cap)
        have A9 := At.set8 (b := w.heap.size + 1) HA7.out (by omega) (.int .i64 22) (.string ⟨nm.toArray⟩) (.int .i64 0) (.int .i64 9) (.int .i64 0) (.string ⟨#[]⟩) (.slice (some ⟨tg, 0, none⟩) tl.length tc) (.slice (some ⟨gg, 0, none⟩) (ps.length + 1) cap)
        obtain ⟨⟨s0, s1, s2, s3, s4, s5, s6, s7⟩, _⟩ := cells8_of _ _ _ _ _ _ _ _ _ _ _ N9
        have HT9 := HT7.out.mono (w' := _) (S' := Su (Sx B X) w.heap.size) (fun g hs _ => hs.imp (fun e => e.1) (fun e => by omega)) (fun g hs hg => K9.2 g (hs.imp (fun e => e.2) (fun e => by omega)) hg)
        have HK9 := HK7.out.mono (w' := _) (S' := Su (Sx B X) w.heap.size) (fun g hs _ => .inr (by have h7 : L1 + 1 ≤ g := hs; omega)) (fun g hs hg => K9.2 g (.inr hs) hg)
        rw [htl2.out] at HT9
        refine bodyPost_ret (v := ndV (.mk 22 nm 0 (Ty.fn (t :: ps.map Nd.typ)) (ps ++ [b])) (.slice (some ⟨tg, 0, none⟩) tl.length tc) (.slice (some ⟨gg, 0, none⟩) (ps.length + 1) cap)) (by simp [results, Tryz.results56, go_sem, s0, s1, s2, s3, s4, s5, s6, s7]; rfl) rfl ?_
        exact A9.okOut (by rw [PR.bind_ok, HE2.out, PR.bind_ok, HE5.out]; rfl) ⟨_, _, rfl, by rw [htl2.out]; exact HT9, HK9⟩ HD5.out
    · have hlt1 : decide ((k : Int) < (ps.length : Int)) = true := by simp; omega
      have hkL : (k : Int) < (ps.length : Int) := by omega
      have hw : IntKind.i64.wrap ((k : Int) + 1) = (k : Int) + 1 := by rw [IntKind.wrap_i64]; omega
      obtain ⟨gk, rfl⟩ : ∃ g, ka = some ⟨g, 0, none⟩ := hka.elim (fun e => by omega) id
      obtain ⟨c1, c2, oa, ka2, on, oc, kn2, kc2, hce, hcl, hof⟩ := RepNl.at ps cellsK hF.out.kk k (by omega)
      have hmem : ps[k]'(by omega) ∈ ps := List.getElem_mem _
      have htk : ps.take (k + 1) = ps.take k ++ [ps[k]'(by omega)] := by rw [List.take_add_one, List.getElem?_eq_getElem (by omega)]; rfl
      generalize ps[k]'(by omega) = u at *
      have hkr := hF.out.kr
      rw [hce] at hkr
      obtain ⟨x0, x1, x2, x3, x4, x5, x6, x7⟩ := row_cells8 hkr hcl
      obtain ⟨⟨q0, q1, q2, q3, q4, q5, q6, q7⟩, f0, f1, f2, f3, f4, f5, f6, f7⟩ := cells8_of wr L1 _ _ _ _ _ _ _ _ _ hF.out.n
      have hgk := hkr.lt gk rfl
      have hgk2 : gk < wr.heap.size := hgk.2
      have hCl := Lib.hid (clone_any _ u.typ (Nat.le_refl _) (hsl.out u hmem) (.slice oa on oc))
      have HOf := Lib.hid hof
      have HTK := Lib.hid htk
      have hmax : tl.length + 1 ≤ maxLen := by have := hlt.out; unfold maxLen; omega
      have hbytes : (tl.length + 1) * 56 ≤ 140737488355328 := by have := hlt.out; omega
      have hHr : w2.heap.size ≤ wr.heap.size := by have := (hF.out.tr.lt tg rfl); omega
      clear hce hcl hof hmem htk hkr hzz
      unfold tyV at *
      go_wp2_with fail
      have H5 := Lib.hid (gr_alloc (grownBy_refl wr none) (.cells #[.int .i64 u.kind, .string ⟨u.text.toArray⟩, .int .i64 u.num, .int .i64 u.typ.kind, .int .i64 u.typ.num, .string ⟨u.typ.name.toArray⟩, .slice oa on oc, .slice ka2 kn2 kc2] 28 (0, 0)))
      have hzr2 : L1 < wr.heap.size := hzr
      go_region_law (first
        | (go_simp; go_at_call 74; refine (hCl.out _ _ (HOf.out.grow H5.out.gr_drew)).mono ?_; rintro e wd ⟨hgd, v5, rfl, hrd⟩; obtain ⟨fa, fn, fc, rfl⟩ := RepOf.isSlice hrd; have HGd := Lib.hid (grownBy_trans H5.out (undrew hgd)); have HF := Lib.hid (hF.out.grown HGd.out); have HRd := Lib.hid hrd; obtain ⟨⟨p0, p1, p2, p3, p4, p5, p6, p7⟩, _⟩ := cells8_of wd L1 _ _ _ _ _ _ _ _ _ HF.out.n; have hz5 := HGd.out.size; have hz6 : L1 < wd.heap.size := (by omega); clear hgd hrd; try unfold tyV)
        | (refine step_append_lies _ rfl (.tmp 29) (.tmp 33) 23 rfl w2.heap.size 25 i0 _ 4 56 Tryz.underlying23 hi hz0 hz1' hz2' rfl (by decide) _ tl.length tcells rfl (HF.out.grown (gr_alloc (grownBy_refl _ _) _)).tr ⟨wd.heap.size, 0, none⟩ 1 1 (tyC u.typ (.slice fa fn fc)) rfl rfl (cells_at _ _ _ _) (by intro x hx; simp [tyC] at hx; rcases hx with rfl | rfl | rfl | rfl <;> rfl) (by omega) hmax hbytes (by simp; omega) (wd.heap.size + 1) (by simp) ?_; intro gg cap w4 hown' hgrow hat' hlt'; have HM := Lib.hid (FnAt.more (a := u.typ) (ofv := .slice fa fn fc) (HF.out.grown (gr_alloc (grownBy_refl _ _) _)) (by omega) (by omega) hH1 ((HRd.out.grow (gr_alloc (grownBy_refl _ _) _)).mono (fun g hs hg => ⟨by have h7 := (show wr.heap.size + 1 ≤ g by simpa using hs); omega, by have h7 := (show wr.heap.size + 1 ≤ g by simpa using hs); have h8 := (hF.out.tr.lt tg rfl).2; omega⟩) (fun _ _ _ => rfl)) hown' hgrow (hat'.imp (fun e => Option.some.inj (show some tg = some gg from e)) id) (by simp)); obtain ⟨⟨s0, s1, s2, s3, s4, s5, s6, s7⟩, e0, e1, e2, e3, e4, e5, e6, e7⟩ := cells8_of w4 L1 _ _ _ _ _ _ _ _ _ (blk_call (HF.out.grown (gr_alloc (grownBy_refl _ _) _)).n hgrow (show some tg ≠ some L1 by have h8 := (hF.out.tr.lt tg rfl).1; simp; omega)); have hz4 := hgrow.size; simp at hz4; have z4 : L1 < w4.heap.size := (by omega); clear hown' hgrow hat' hlt'))
      all_goals
        go_wp2_with fail
        go_roundg (ps.length - (k + 1))
        case measure => omega
        case rel =>
          refine ⟨k + 1, gg, cap, tl ++ [u.typ], tcells ++ tyC u.typ (.slice fa fn fc), rfl, by omega, rfl, ?_, (show (tl ++ [u.typ]).length = k + 1 + 1 by have := hlt.out; simp; omega), HM.out⟩
          show tl ++ [u.typ] = _
          rw [htl.out, HTK.out]
          simp

end Go.Proofs.YtkbplcfehllbjaaGreatDoor
/- Types that are read have short lists. -/
namespace Go.Proofs.YtkbplcfehllbjaaGreatDoor
open Go.RowKit
def RecSlim (R : Rec) : Prop := ∀ ts t r, R.typename ts = .ok t r → SlimT t
theorem loop_six {α : Type} {one : List T4 → PR α} : ∀ (m : Nat) (l : List α) (ts : List T4) (l' : List α) (r : List T4), l.length < 6 → loopP (listStep one) m l ts = .ok l' r → l'.length ≤ 6 := by
  intro m
  induction m with
  | zero => intro l ts l' r _ e; cases e
  | succ m ih =>
    intro l ts l' r hl e
    simp only [loopP, listStep] at e
    cases h1 : one ts with
    | err p er => rw [h1] at e; cases e
    | ok a r1 =>
      rw [h1] at e
      simp only [PR.bind_ok] at e
      by_cases hc : isP [44] r1 = true
      · rw [if_pos hc] at e
        by_cases h6 : (l ++ [a]).length = 6
        · rw [if_pos h6] at e; cases e
        · rw [if_neg h6] at e
          exact ih _ _ _ _ (by simp at h6 ⊢; omega) e
      · rw [if_neg hc] at e
        cases h2 : wantP [41] r1 with
        | err p er => rw [h2] at e; cases e
        | ok u r2 => rw [h2] at e; cases e; simp; omega
theorem listP_six {α : Type} {one : List T4 → PR α} {ts : List T4} {l : List α} {r : List T4} (e : listP one ts = .ok l r) : l.length ≤ 6 := by
  unfold listP at e
  cases h1 : wantP [40] ts with
  | err p er => rw [h1] at e; cases e
  | ok u r1 =>
    rw [h1, PR.bind_ok] at e
    by_cases hc : isP [41] r1 = true
    · rw [if_pos hc] at e; cases e; simp
    · rw [if_neg hc] at e
      exact loop_six _ _ _ _ _ (by simp) e
theorem SlimL.of_mem : ∀ {l : List Ty}, (∀ t ∈ l, SlimT t) → SlimL l
  | [], _ => trivial
  | a :: l, h => ⟨h a (by simp), SlimL.of_mem fun t ht => h t (by simp [ht])⟩
theorem SlimT.ptr {t : Ty} (h : SlimT t) : SlimT (Ty.ptr t) := ⟨by simp, h, trivial⟩
theorem SlimT.arr {t : Ty} (n : Int) (h : SlimT t) : SlimT (Ty.arr n t) := ⟨by simp, h, trivial⟩
theorem slim_arrays (l : List Int) {t : Ty} (h : SlimT t) : SlimT (arraysT l t) := by
  induction l with
  | nil => exact h
  | cons a l ih => exact SlimT.arr a ih
theorem slim_base {ts r : List T4} {t : Ty} (e : baseP ts = .ok t r) : SlimT t := by
  unfold baseP at e
  cases hk : typeKind (hdT ts).text with
  | none => rw [hk] at e; cases e
  | some k =>
    rw [hk] at e
    dsimp only at e
    by_cases h : k = 7 ∨ k = 8
    · rw [if_pos h] at e
      cases hn : nameP ts.tail with
      | err p er => rw [hn] at e; cases e
      | ok nm r1 => rw [hn, PR.bind_ok] at e; cases e; exact ⟨by simp, trivial⟩
    · rw [if_neg h] at e; cases e; exact ⟨by simp, trivial⟩
theorem slim_stars : ∀ (ts : List T4) (t : Ty), SlimT t → SlimT (starsP ts t).1
  | [], t, h => h
  | a :: r, t, h => by
    unfold starsP
    by_cases hs : a.text = [42]
    · rw [if_pos hs]; exact slim_stars r t.ptr h.ptr
    · rw [if_neg hs]; exact h
theorem slim_pointer {R : Rec} (hR : RecSlim R) {t u : Ty} (ht : SlimT t) {ts r : List T4} (e : pointerToP R t ts = .ok u r) : SlimT u := by
  unfold pointerToP at e
  cases h1 : listP R.typename ts with
  | err p er => rw [h1] at e; cases e
  | ok l r1 =>
    rw [h1, PR.bind_ok] at e
    cases e
    have h6 := listP_six h1
    exact SlimT.ptr ⟨by simp; omega, ht, SlimL.of_mem (listP_all (p := SlimT) (fun ts a r e => hR ts a r e) h1)⟩
theorem slim_typename {R : Rec} (hR : RecSlim R) {ts r : List T4} {u : Ty} (e : typenameF R ts = .ok u r) : SlimT u := by
  unfold typenameF at e
  cases h1 : baseP ts with
  | err p er => rw [h1] at e; cases e
  | ok t r1 =>
    rw [h1, PR.bind_ok] at e
    dsimp only at e
    have hs := slim_stars r1 t (slim_base h1)
    by_cases hp : isP [40] (starsP r1 t).2 = true
    · rw [if_pos hp] at e
      cases h2 : wantP [42] (starsP r1 t).2.tail with
      | err p er => rw [h2] at e; cases e
      | ok u2 r2 =>
        rw [h2, PR.bind_ok] at e
        cases h3 : wantP [41] r2 with
        | err p er => rw [h3] at e; cases e
        | ok u3 r3 => rw [h3, PR.bind_ok] at e; exact slim_pointer hR hs e
    · rw [if_neg hp] at e; cases e; exact hs
theorem slim_declared {R : Rec} (hR : RecSlim R) (k : Int) {t : Ty} (ht : SlimT t) {ts r : List T4} {n : Nd} (e : declaredP R k t ts = .ok n r) : SlimT n.typ := by
  unfold declaredP at e
  by_cases hp : isP [40] ts = true
  · rw [if_pos hp] at e
    cases h1 : wantP [42] ts.tail with
    | err p er => rw [h1] at e; cases e
    | ok u1 r1 =>
      rw [h1, PR.bind_ok] at e
      cases h2 : nameP r1 with
      | err p er => rw [h2] at e; cases e
      | ok nm r2 =>
        rw [h2, PR.bind_ok] at e
        cases h3 : sizesP r2 with
        | err p er => rw [h3] at e; cases e
        | ok sz r3 =>
          rw [h3, PR.bind_ok] at e
          cases h4 : wantP [41] r3 with
          | err p er => rw [h4] at e; cases e
          | ok u4 r4 =>
            rw [h4, PR.bind_ok] at e
            cases h5 : pointerToP R t r4 with
            | err p er => rw [h5] at e; cases e
            | ok u r5 => rw [h5, PR.bind_ok] at e; cases e; exact slim_arrays sz (slim_pointer hR ht h5)
  · rw [if_neg hp] at e
    cases h2 : nameP ts with
    | err p er => rw [h2] at e; cases e
    | ok nm r2 =>
      rw [h2, PR.bind_ok] at e
      cases h3 : sizesP r2 with
      | err p er => rw [h3] at e; cases e
      | ok sz r3 => rw [h3, PR.bind_ok] at e; cases e; exact slim_arrays sz ht
theorem slim_decl {R : Rec} (hR : RecSlim R) {ts r : List T4} {n : Nd} (e : declP R ts = .ok n r) : SlimT n.typ := by
  unfold declP at e
  cases h1 : baseP ts with
  | err p er => rw [h1] at e; cases e
  | ok t r1 =>
    rw [h1, PR.bind_ok] at e
    exact slim_declared hR 13 (slim_stars r1 t (slim_base h1)) e
theorem recSlim : ∀ f, RecSlim (recAt f)
  | 0 => fun ts t r e => by cases e
  | f + 1 => fun ts t r e => slim_typename (recSlim f) e

end Go.Proofs.YtkbplcfehllbjaaGreatDoor
