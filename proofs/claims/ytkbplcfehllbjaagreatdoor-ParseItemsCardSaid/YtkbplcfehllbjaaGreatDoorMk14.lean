/- Merged: Q41, Q42. -/
import Derived.Test.YtkbplcfehllbjaaGreatDoorMk13
/- item. -/
namespace Go.Proofs.YtkbplcfehllbjaaGreatDoor
open Go.RowKit
attribute [local go_sem ↓] Go.wp_at_zero Go.wp_at_succ
theorem field_tok0 (w : World) (a b c : Int) (s : ByteArray) : (Instr.field 49 (.agg #[.int .i64 a, .int .i64 b, .string s, .int .i64 c]) 0).run Tryz.prog w = .ok (.int .i64 a) w := by
  simp [Instr.field, run_underlying Tryz.underlying49, asAgg, part, go_sem]
theorem field_tok2 (w : World) (a b c : Int) (s : ByteArray) : (Instr.field 49 (.agg #[.int .i64 a, .int .i64 b, .string s, .int .i64 c]) 2).run Tryz.prog w = .ok (.string s) w := by
  simp [Instr.field, run_underlying Tryz.underlying49, asAgg, part, go_sem]
set_option maxRecDepth 100000 in
set_option maxHeartbeats 8000000 in
theorem item_any (C : Ctx) (d : Nat) (R R1 : Rec) (hd60 : d < 60) (L : Lev C d R) (L1' : Lev C (d + 1) R1) (hR : RecSlim R) : RunsN 45 C d (itemP R R1) := by
  intro w i h
  have HP := Lib.hid h.at
  have hbp := lt_of_heap h.blk
  have hlen := h.len
  have HL := Lib.hid L
  have HL1 := Lib.hid L1'
  have HSl := Lib.hid (fun ts a r (e : declP R ts = .ok a r) => slim_decl hR e)
  have hp : C.p = .pointer (some ⟨C.bp, 0, none⟩) := rfl
  have HBs := Lib.hid (fun w' (h' : Pr C w' i d) => base_any C w' i d h')
  generalize hR0 : baseP (C.toks.drop i) = R0 at *
  have HE1 := Lib.hid hR0
  clear h L L1' hR hR0
  have hft0 := field_tok0
  have hft2 := field_tok2
  go_enter Tryz.func45, Tryz.ntmps45
  go_wp2_with fail
  have HA0 := Lib.hid (HP.out.alloc (.cells #[.int .i64 0, .string ⟨#[]⟩, .int .i64 0, .int .i64 0, .int .i64 0, .string ⟨#[]⟩, .slice none 0 0, .slice none 0 0] 28))
  have N0 := Lib.hid (blk_new w (.cells #[.int .i64 0, .string ⟨#[]⟩, .int .i64 0, .int .i64 0, .int .i64 0, .string ⟨#[]⟩, .slice none 0 0, .slice none 0 0] 28))
  refine (HBs.out _ HA0.out.pr).mono ?_
  rcases R0 with ⟨t, r⟩ | ⟨p, er⟩
  rotate_left
  · rintro e w1 ⟨hg, i1, d1, rfl, hdd, hp1⟩
    exact ⟨rfl, (HA0.out.turn hg hp1).errOut (by unfold itemP; rw [HE1.out]; rfl)⟩
  rintro e w1 ⟨hg, v1, i1, rfl, ⟨ofv, rfl, hof⟩, hp1, rfl⟩
  obtain ⟨sa, sn, sc, rfl⟩ := hof.isSlice
  have hz1 := hg.size
  simp at hz1
  have hz1' : w.heap.size < w1.heap.size := by omega
  have HA := Lib.hid ((HA0.out.turn hg hp1).alloc (.cells #[.int .i64 t.kind, .int .i64 t.num, .string ⟨t.name.toArray⟩, .slice sa sn sc] 25 (0, 0)))
  have BB := Lib.hid (blk_new w1 (.cells #[.int .i64 t.kind, .int .i64 t.num, .string ⟨t.name.toArray⟩, .slice sa sn sc] 25 (0, 0)))
  have NN := Lib.hid (blk_alloc (blk_call N0.out hg (by simp; omega)) (.cells #[.int .i64 t.kind, .int .i64 t.num, .string ⟨t.name.toArray⟩, .slice sa sn sc] 25 (0, 0)))
  have HR := Lib.hid ((hof.mono (S' := Sx (w.heap.size + 1) [w1.heap.size]) (fun g hs hl => ⟨by simpa using hs, by simp; omega⟩) (fun _ _ _ => rfl)).kept ((Kept.refl _ w1).alloc (.cells #[.int .i64 t.kind, .int .i64 t.num, .string ⟨t.name.toArray⟩, .slice sa sn sc] 25 (0, 0))))
  have hzA : w1.heap.size < (w1.alloc (.cells #[.int .i64 t.kind, .int .i64 t.num, .string ⟨t.name.toArray⟩, .slice sa sn sc] 25 (0, 0))).heap.size := by simp
  clear hg hp1 hof HA0 N0 HP HBs
  unfold tyV
  cases g1 : t.name == [] with
  | true =>
    have hno : ¬ (t.name ≠ [] ∧ isP [123] (C.toks.drop i1) = true) := fun e => e.1 (by simpa using g1)
    go_wp2_with fail
    generalize w1.alloc (.cells #[.int .i64 t.kind, .int .i64 t.num, .string ⟨t.name.toArray⟩, .slice sa sn sc] 25 (0, 0)) = wA at *
    refine (stars_any C (w.heap.size + 1) [w1.heap.size] (by omega) t (.slice sa sn sc) wA i1 d HA.out.pr (by omega) (by intro x hx; simp at hx; subst hx; omega) HR.out).mono ?_
    rintro e w3 ⟨hg, v3, i3, rfl, hof, hp3, hd3⟩
    generalize hst : starsP (C.toks.drop i1) t = st at *
    obtain ⟨ba, bn, bc, rfl⟩ := hof.isSlice
    have hz3 := hg.size
    have HA := Lib.hid (HA.out.turn hg hp3)
    have BB := Lib.hid (blk_call BB.out hg (by simp; omega))
    have NN := Lib.hid (blk_call NN.out hg (by simp; omega))
    have HR := Lib.hid (hof.join (by omega) (by intro x hx; simp at hx; subst hx; omega))
    have HD3 := Lib.hid hd3
    have HST := Lib.hid hst
    have hi3 := hp3.lt
    have hfin := hp3.fin
    clear hg hp3 hof hst hd3
    obtain ⟨b0, b1, b2, b3, f0, f1, f2, f3⟩ := cells4_of w3 w1.heap.size _ _ _ _ _ BB.out
    have hzL : w1.heap.size < w3.heap.size := lt_of_heap BB.out
    unfold tyV
    go_wp2_with fail
    have HA := Lib.hid (At.set4 (b := w1.heap.size) HA.out (by omega) (.int .i64 st.1.kind) (.int .i64 st.1.num) (.string ⟨st.1.name.toArray⟩) (.slice ba bn bc))
    have K4 := keepsOn4 (S := fun g => g ≠ w1.heap.size) w3 (b := w1.heap.size) (by simp) (.int .i64 st.1.kind) (.int .i64 st.1.num) (.string ⟨st.1.name.toArray⟩) (.slice ba bn bc)
    have NN := Lib.hid ((K4.2 w.heap.size (by omega) (lt_of_heap NN.out)).trans NN.out)
    have HR := Lib.hid (HR.out.mono (w' := _) (S' := Sx (w.heap.size + 1) [w1.heap.size]) (fun _ hs _ => hs) (fun g hs hg => K4.2 g (fun e => hs.2 (by simp [e])) hg))
    have BB := Lib.hid (blk_put4 BB.out (.int .i64 st.1.kind) (.int .i64 st.1.num) (.string ⟨st.1.name.toArray⟩) (.slice ba bn bc))
    have hs4 : w3.heap.size = ((((w3.setCell ⟨w1.heap.size, 0, none⟩ (.int .i64 st.1.kind)).setCell ⟨w1.heap.size, 1, none⟩ (.int .i64 st.1.num)).setCell ⟨w1.heap.size, 2, none⟩ (.string ⟨st.1.name.toArray⟩)).setCell ⟨w1.heap.size, 3, none⟩ (.slice ba bn bc)).heap.size := by simp [World.setCell]
    generalize ((((w3.setCell ⟨w1.heap.size, 0, none⟩ (.int .i64 st.1.kind)).setCell ⟨w1.heap.size, 1, none⟩ (.int .i64 st.1.num)).setCell ⟨w1.heap.size, 2, none⟩ (.string ⟨st.1.name.toArray⟩)).setCell ⟨w1.heap.size, 3, none⟩ (.slice ba bn bc)) = w4 at *
    clear K4 b0 b1 b2 b3 f0 f1 f2 f3
    have HTk := Lib.hid (token_any C w4 i3 d HA.out.pr _ (hd_at _ _ hi3))
    have hfn := hfin i3 _ (hd_at _ _ hi3)
    have HDC := Lib.hid (show itemP R R1 (C.toks.drop i) = if (hdT (C.toks.drop i3)).kind = 1 ∧ isP [40] (C.toks.drop (i3 + 1)) = true then functionP R R1 st.1 (C.toks.drop i3) else (declaredP R 21 st.1 (C.toks.drop i3)).bind fun n r1 => (wantP [59] r1).bind fun _ r2 => .ok n r2 by
      unfold itemP
      rw [HE1.out, PR.bind_ok, if_neg hno]
      dsimp only
      rw [HST.out, ← HD3.out, tl_at])
    generalize htk : hdT (C.toks.drop i3) = tk at *
    unfold tkV at HTk
    refine HTk.out.mono ?_
    rintro e w5 ⟨rfl, hg⟩
    have hz5 := hg.size
    have HA := Lib.hid (HA.out.call hg)
    have NN := Lib.hid (blk_call NN.out hg (by simp))
    have BB := Lib.hid (blk_call BB.out hg (by simp))
    have HR := Lib.hid (HR.out.grow hg)
    clear hg
    obtain ⟨b0, b1, b2, b3, f0, f1, f2, f3⟩ := cells4_of w5 w1.heap.size _ _ _ _ _ BB.out
    by_cases h1 : tk.kind = 1
    · have k1 : (tk.kind == 1) = true := by simp [h1]
      have hl : i3 + 1 < C.toks.length := hfn (Or.inr (by omega))
      have HS := Lib.hid (second_any C w5 i3 d HA.out.pr _ (hd_at _ _ hl))
      have HDC := Lib.hid (show itemP R R1 (C.toks.drop i) = if ((hdT (C.toks.drop (i3 + 1))).text == [40]) = true then functionP R R1 st.1 (C.toks.drop i3) else (declaredP R 21 st.1 (C.toks.drop i3)).bind fun n r1 => (wantP [59] r1).bind fun _ r2 => .ok n r2 by
        rw [HDC.out]; unfold isP; simp only [h1, true_and])
      generalize hdT (C.toks.drop (i3 + 1)) = t2 at *
      unfold tkV at HS
      clear h1
      go_wp2_with fail
      refine HS.out.mono ?_
      rintro e w6 ⟨rfl, hg⟩
      have hz6 := hg.size
      have HA := Lib.hid (HA.out.call hg)
      have NN := Lib.hid (blk_call NN.out hg (by simp))
      have BB := Lib.hid (blk_call BB.out hg (by simp))
      have HR := Lib.hid (HR.out.grow hg)
      clear hg b0 b1 b2 b3 f0 f1 f2 f3
      obtain ⟨b0, b1, b2, b3, f0, f1, f2, f3⟩ := cells4_of w6 w1.heap.size _ _ _ _ _ BB.out
      cases g2 : t2.text == [40] with
      | true =>
        have HDC := Lib.hid (HDC.out.trans (if_pos g2))
        go_wp2_with fail
        have HC := Lib.hid (function_any C d R R1 hd60 HL.out HL1.out HSl.out st.1 (.slice ba bn bc) (w.heap.size + 1) [w1.heap.size] (by omega) w6 i3 HA.out.pr HR.out)
        generalize hR9 : functionP R R1 st.1 (C.toks.drop i3) = R9 at *
        clear hR9
        unfold tyV at HC
        refine (HC.out).mono ?_
        rcases R9 with ⟨u, rr⟩ | ⟨p, er⟩
        rotate_left
        · rintro e wc ⟨hg, i9, d9, rfl, hdd, hp9⟩
          exact ⟨rfl, (HA.out.turn hg hp9).errOut (HDC.out)⟩
        rintro e wc ⟨hg, v9, i9, rfl, ⟨ofu, kvu, rfl, hof, hok⟩, hp9, rfl⟩
        obtain ⟨fa, fn, fc, rfl⟩ := hof.isSlice
        obtain ⟨ga, gn, gc, rfl⟩ := RepK.isSlice hok
        have hz9 := hg.size
        have HA := Lib.hid (HA.out.turn hg hp9)
        have NN := Lib.hid (blk_call NN.out hg (by simp; omega))
        have HRo := Lib.hid (hof.mono (S' := fun g => w.heap.size + 1 ≤ g) (fun g hs _ => by rcases hs with e | e; exact e.1; omega) (fun _ _ _ => rfl))
        have HRk := Lib.hid (hok.mono (S' := fun g => w.heap.size + 1 ≤ g) (fun g hs _ => by rcases hs with e | e; exact e.1; omega) (fun _ _ _ => rfl))
        clear hg hp9 hof hok
        obtain ⟨⟨z0, z1, z2, z3, z4, z5, z6, z7⟩, y0, y1, y2, y3, y4, y5, y6, y7⟩ := cells8_of wc w.heap.size _ _ _ _ _ _ _ _ _ NN.out
        have hz8 : w.heap.size < wc.heap.size := lt_of_heap NN.out
        unfold ndV
        go_wp2_with fail
        have N9 := blk_put8 NN.out (.int .i64 u.kind) (.string ⟨u.text.toArray⟩) (.int .i64 u.num) (.int .i64 u.typ.kind) (.int .i64 u.typ.num) (.string ⟨u.typ.name.toArray⟩) (.slice fa fn fc) (.slice ga gn gc)
        have K9 := keepsOn8 (S := fun g => w.heap.size + 1 ≤ g) wc (b := w.heap.size) (by omega) (.int .i64 u.kind) (.string ⟨u.text.toArray⟩) (.int .i64 u.num) (.int .i64 u.typ.kind) (.int .i64 u.typ.num) (.string ⟨u.typ.name.toArray⟩) (.slice fa fn fc) (.slice ga gn gc)
        have A9 := At.set8 (b := w.heap.size) HA.out (by omega) (.int .i64 u.kind) (.string ⟨u.text.toArray⟩) (.int .i64 u.num) (.int .i64 u.typ.kind) (.int .i64 u.typ.num) (.string ⟨u.typ.name.toArray⟩) (.slice fa fn fc) (.slice ga gn gc)
        obtain ⟨⟨s0, s1, s2, s3, s4, s5, s6, s7⟩, _⟩ := cells8_of _ _ _ _ _ _ _ _ _ _ _ N9
        refine bodyPost_ret (v := ndV u (.slice fa fn fc) (.slice ga gn gc)) (by simp [results, Tryz.results45, go_sem, s0, s1, s2, s3, s4, s5, s6, s7]; rfl) rfl ?_
        exact A9.okOut (HDC.out) ⟨_, _, rfl, HRo.out.mono (fun g hs _ => by have h7 : w.heap.size + 1 ≤ g := hs; show w.heap.size ≤ g; omega) (fun g hs hg => K9.2 g hs hg), HRk.out.mono (fun g hs _ => by have h7 : w.heap.size + 1 ≤ g := hs; show w.heap.size ≤ g; omega) (fun g hs hg => K9.2 g hs hg)⟩ rfl
      | false =>
        have HDC := Lib.hid (HDC.out.trans (if_neg (by rw [g2]; simp)))
        go_wp2_with fail
        have HC := Lib.hid (declared_any C d R HL.out 21 st.1 (.slice ba bn bc) (w.heap.size + 1) [w1.heap.size] (by omega) w6 i3 HA.out.pr (by omega) (by intro x hx; simp at hx; subst hx; omega) HR.out)
        generalize hR9 : declaredP R 21 st.1 (C.toks.drop i3) = R9 at *
        clear hR9
        unfold tyV at HC
        refine HC.out.mono ?_
        rcases R9 with ⟨u, rr⟩ | ⟨p, er⟩
        rotate_left
        · rintro e wc ⟨hg, i9, d9, rfl, hdd, hp9⟩
          exact ⟨rfl, (HA.out.turn hg hp9).errOut (HDC.out.trans rfl)⟩
        rintro e wc ⟨hg, v9, i9, rfl, ⟨ofu, rfl, hof, hok⟩, hp9, rfl⟩
        obtain ⟨fa, fn, fc, rfl⟩ := hof.isSlice
        have hz9 := hg.size
        have HA := Lib.hid ((HA.out.turn hg hp9).alloc (.cells #[.int .i64 u.kind, .string ⟨u.text.toArray⟩, .int .i64 u.num, .int .i64 u.typ.kind, .int .i64 u.typ.num, .string ⟨u.typ.name.toArray⟩, .slice fa fn fc, .slice none 0 0] 28 (0, 0)))
        have NN := Lib.hid (blk_alloc (blk_call NN.out hg (by simp; omega)) (.cells #[.int .i64 u.kind, .string ⟨u.text.toArray⟩, .int .i64 u.num, .int .i64 u.typ.kind, .int .i64 u.typ.num, .string ⟨u.typ.name.toArray⟩, .slice fa fn fc, .slice none 0 0] 28 (0, 0)))
        have UU := Lib.hid (blk_new wc (.cells #[.int .i64 u.kind, .string ⟨u.text.toArray⟩, .int .i64 u.num, .int .i64 u.typ.kind, .int .i64 u.typ.num, .string ⟨u.typ.name.toArray⟩, .slice fa fn fc, .slice none 0 0] 28 (0, 0)))
        have HRo := Lib.hid ((hof.mono (S' := fun g => w.heap.size + 1 ≤ g) (fun g hs _ => by rcases hs with e | e; exact e.1; omega) (fun _ _ _ => rfl)).kept ((Kept.refl _ wc).alloc (.cells #[.int .i64 u.kind, .string ⟨u.text.toArray⟩, .int .i64 u.num, .int .i64 u.typ.kind, .int .i64 u.typ.num, .string ⟨u.typ.name.toArray⟩, .slice fa fn fc, .slice none 0 0] 28 (0, 0))))
        have HK := Lib.hid hok
        have HW := Lib.hid (fun w' (h' : Pr C w' i9 d) => want_any C w' i9 d h' [59] (by simp))
        generalize hR8 : wantP [59] (C.toks.drop i9) = R8 at *
        have HE8 := Lib.hid hR8
        clear hg hp9 hof hok hR8
        unfold ndV
        go_wp2_with fail
        refine (HW.out _ HA.out.pr).mono ?_
        rcases R8 with ⟨u8, rr⟩ | ⟨p, er⟩
        rotate_left
        · rintro e w8 ⟨hg, i8, d8, rfl, hdd, hp8⟩
          exact ⟨rfl, (HA.out.turn hg hp8).errOut (by rw [HDC.out, PR.bind_ok, HE8.out]; rfl)⟩
        rintro e w8 ⟨hg, v8, i8, rfl, hv8, hp8, rfl⟩
        have hv' : v8 = .tuple #[] := hv8
        subst hv'
        have hz8' := hg.size
        simp at hz8'
        have HA := Lib.hid (HA.out.turn hg hp8)
        have NN := Lib.hid (blk_call NN.out hg (by simp; omega))
        have UU := Lib.hid (blk_call UU.out hg (by simp; omega))
        have HRo := Lib.hid (HRo.out.mono (S' := fun g => w.heap.size + 1 ≤ g) (fun _ hs _ => hs) (fun g hs hl => hg.block g hl (by have h7 : w.heap.size + 1 ≤ g := hs; simp; omega)))
        have HRk := Lib.hid (show RepK w8 (fun g => w.heap.size + 1 ≤ g) (.slice none 0 0) u.kids by rw [HK.out]; exact RepK.nil _ _)
        obtain ⟨⟨m0, m1, m2, m3, m4, m5, m6, m7⟩, _⟩ := cells8_of w8 wc.heap.size _ _ _ _ _ _ _ _ _ UU.out
        have hzu : wc.heap.size < w8.heap.size := lt_of_heap UU.out
        clear hg hp8 hv8
        obtain ⟨⟨z0, z1, z2, z3, z4, z5, z6, z7⟩, y0, y1, y2, y3, y4, y5, y6, y7⟩ := cells8_of w8 w.heap.size _ _ _ _ _ _ _ _ _ NN.out
        have hz8 : w.heap.size < w8.heap.size := lt_of_heap NN.out
        go_wp2_with fail
        have N9 := blk_put8 NN.out (.int .i64 u.kind) (.string ⟨u.text.toArray⟩) (.int .i64 u.num) (.int .i64 u.typ.kind) (.int .i64 u.typ.num) (.string ⟨u.typ.name.toArray⟩) (.slice fa fn fc) (.slice none 0 0)
        have K9 := keepsOn8 (S := fun g => w.heap.size + 1 ≤ g) w8 (b := w.heap.size) (by omega) (.int .i64 u.kind) (.string ⟨u.text.toArray⟩) (.int .i64 u.num) (.int .i64 u.typ.kind) (.int .i64 u.typ.num) (.string ⟨u.typ.name.toArray⟩) (.slice fa fn fc) (.slice none 0 0)
        have A9 := At.set8 (b := w.heap.size) HA.out (by omega) (.int .i64 u.kind) (.string ⟨u.text.toArray⟩) (.int .i64 u.num) (.int .i64 u.typ.kind) (.int .i64 u.typ.num) (.string ⟨u.typ.name.toArray⟩) (.slice fa fn fc) (.slice none 0 0)
        obtain ⟨⟨s0, s1, s2, s3, s4, s5, s6, s7⟩, _⟩ := cells8_of _ _ _ _ _ _ _ _ _ _ _ N9
        refine bodyPost_ret (v := ndV u (.slice fa fn fc) (.slice none 0 0)) (by simp [results, Tryz.results45, go_sem, s0, s1, s2, s3, s4, s5, s6, s7]; rfl) rfl ?_
        exact A9.okOut (by rw [HDC.out, PR.bind_ok, HE8.out]; rfl) ⟨_, _, rfl, HRo.out.mono (fun g hs _ => by have h7 : w.heap.size + 1 ≤ g := hs; show w.heap.size ≤ g; omega) (fun g hs hg => K9.2 g hs hg), HRk.out.mono (fun g hs _ => by have h7 : w.heap.size + 1 ≤ g := hs; show w.heap.size ≤ g; omega) (fun g hs hg => K9.2 g hs hg)⟩ rfl
    · have k1 : (tk.kind == 1) = false := by simp [h1]
      have HDC := Lib.hid (HDC.out.trans (if_neg (fun e => h1 e.1)))
      clear h1
      go_wp2_with fail
      have HC := Lib.hid (declared_any C d R HL.out 21 st.1 (.slice ba bn bc) (w.heap.size + 1) [w1.heap.size] (by omega) w5 i3 HA.out.pr (by omega) (by intro x hx; simp at hx; subst hx; omega) HR.out)
      generalize hR9 : declaredP R 21 st.1 (C.toks.drop i3) = R9 at *
      clear hR9
      unfold tyV at HC
      refine HC.out.mono ?_
      rcases R9 with ⟨u, rr⟩ | ⟨p, er⟩
      rotate_left
      · rintro e wc ⟨hg, i9, d9, rfl, hdd, hp9⟩
        exact ⟨rfl, (HA.out.turn hg hp9).errOut (HDC.out.trans rfl)⟩
      rintro e wc ⟨hg, v9, i9, rfl, ⟨ofu, rfl, hof, hok⟩, hp9, rfl⟩
      obtain ⟨fa, fn, fc, rfl⟩ := hof.isSlice
      have hz9 := hg.size
      have HA := Lib.hid ((HA.out.turn hg hp9).alloc (.cells #[.int .i64 u.kind, .string ⟨u.text.toArray⟩, .int .i64 u.num, .int .i64 u.typ.kind, .int .i64 u.typ.num, .string ⟨u.typ.name.toArray⟩, .slice fa fn fc, .slice none 0 0] 28 (0, 0)))
      have NN := Lib.hid (blk_alloc (blk_call NN.out hg (by simp; omega)) (.cells #[.int .i64 u.kind, .string ⟨u.text.toArray⟩, .int .i64 u.num, .int .i64 u.typ.kind, .int .i64 u.typ.num, .string ⟨u.typ.name.toArray⟩, .slice fa fn fc, .slice none 0 0] 28 (0, 0)))
      have UU := Lib.hid (blk_new wc (.cells #[.int .i64 u.kind, .string ⟨u.text.toArray⟩, .int .i64 u.num, .int .i64 u.typ.kind, .int .i64 u.typ.num, .string ⟨u.typ.name.toArray⟩, .slice fa fn fc, .slice none 0 0] 28 (0, 0)))
      have HRo := Lib.hid ((hof.mono (S' := fun g => w.heap.size + 1 ≤ g) (fun g hs _ => by rcases hs with e | e; exact e.1; omega) (fun _ _ _ => rfl)).kept ((Kept.refl _ wc).alloc (.cells #[.int .i64 u.kind, .string ⟨u.text.toArray⟩, .int .i64 u.num, .int .i64 u.typ.kind, .int .i64 u.typ.num, .string ⟨u.typ.name.toArray⟩, .slice fa fn fc, .slice none 0 0] 28 (0, 0))))
      have HK := Lib.hid hok
      have HW := Lib.hid (fun w' (h' : Pr C w' i9 d) => want_any C w' i9 d h' [59] (by simp))
      generalize hR8 : wantP [59] (C.toks.drop i9) = R8 at *
      have HE8 := Lib.hid hR8
      clear hg hp9 hof hok hR8
      unfold ndV
      go_wp2_with fail
      refine (HW.out _ HA.out.pr).mono ?_
      rcases R8 with ⟨u8, rr⟩ | ⟨p, er⟩
      rotate_left
      · rintro e w8 ⟨hg, i8, d8, rfl, hdd, hp8⟩
        exact ⟨rfl, (HA.out.turn hg hp8).errOut (by rw [HDC.out, PR.bind_ok, HE8.out]; rfl)⟩
      rintro e w8 ⟨hg, v8, i8, rfl, hv8, hp8, rfl⟩
      have hv' : v8 = .tuple #[] := hv8
      subst hv'
      have hz8' := hg.size
      simp at hz8'
      have HA := Lib.hid (HA.out.turn hg hp8)
      have NN := Lib.hid (blk_call NN.out hg (by simp; omega))
      have UU := Lib.hid (blk_call UU.out hg (by simp; omega))
      have HRo := Lib.hid (HRo.out.mono (S' := fun g => w.heap.size + 1 ≤ g) (fun _ hs _ => hs) (fun g hs hl => hg.block g hl (by have h7 : w.heap.size + 1 ≤ g := hs; simp; omega)))
      have HRk := Lib.hid (show RepK w8 (fun g => w.heap.size + 1 ≤ g) (.slice none 0 0) u.kids by rw [HK.out]; exact RepK.nil _ _)
      obtain ⟨⟨m0, m1, m2, m3, m4, m5, m6, m7⟩, _⟩ := cells8_of w8 wc.heap.size _ _ _ _ _ _ _ _ _ UU.out
      have hzu : wc.heap.size < w8.heap.size := lt_of_heap UU.out
      clear hg hp8 hv8
      obtain ⟨⟨z0, z1, z2, z3, z4, z5, z6, z7⟩, y0, y1, y2, y3, y4, y5, y6, y7⟩ := cells8_of w8 w.heap.size _ _ _ _ _ _ _ _ _ NN.out
      have hz8 : w.heap.size < w8.heap.size := lt_of_heap NN.out
      go_wp2_with fail
      have N9 := blk_put8 NN.out (.int .i64 u.kind) (.string ⟨u.text.toArray⟩) (.int .i64 u.num) (.int .i64 u.typ.kind) (.int .i64 u.typ.num) (.string ⟨u.typ.name.toArray⟩) (.slice fa fn fc) (.slice none 0 0)
      have K9 := keepsOn8 (S := fun g => w.heap.size + 1 ≤ g) w8 (b := w.heap.size) (by omega) (.int .i64 u.kind) (.string ⟨u.text.toArray⟩) (.int .i64 u.num) (.int .i64 u.typ.kind) (.int .i64 u.typ.num) (.string ⟨u.typ.name.toArray⟩) (.slice fa fn fc) (.slice none 0 0)
      have A9 := At.set8 (b := w.heap.size) HA.out (by omega) (.int .i64 u.kind) (.string ⟨u.text.toArray⟩) (.int .i64 u.num) (.int .i64 u.typ.kind) (.int .i64 u.typ.num) (.string ⟨u.typ.name.toArray⟩) (.slice fa fn fc) (.slice none 0 0)
      obtain ⟨⟨s0, s1, s2, s3, s4, s5, s6, s7⟩, _⟩ := cells8_of _ _ _ _ _ _ _ _ _ _ _ N9
      refine bodyPost_ret (v := ndV u (.slice fa fn fc) (.slice none 0 0)) (by simp [results, Tryz.results45, go_sem, s0, s1, s2, s3, s4, s5, s6, s7]; rfl) rfl ?_
      exact A9.okOut (by rw [HDC.out, PR.bind_ok, HE8.out]; rfl) ⟨_, _, rfl, HRo.out.mono (fun g hs _ => by have h7 : w.heap.size + 1 ≤ g := hs; show w.heap.size ≤ g; omega) (fun g hs hg => K9.2 g hs hg), HRk.out.mono (fun g hs _ => by have h7 : w.heap.size + 1 ≤ g := hs; show w.heap.size ≤ g; omega) (fun g hs hg => K9.2 g hs hg)⟩ rfl
  | false =>
    cases g3 : isP [123] (C.toks.drop i1) with
    | true =>
      have hyes : t.name ≠ [] ∧ isP [123] (C.toks.drop i1) = true := ⟨by simpa using g1, g3⟩
      have HDC := Lib.hid (show itemP R R1 (C.toks.drop i) = recordP R t (C.toks.drop i1) by unfold itemP; rw [HE1.out, PR.bind_ok, if_pos hyes])
      have HI := Lib.hid (fun w' (h' : Pr C w' i1 d) => is_is true C w' i1 d h' [123] g3)
      clear hyes
      go_wp2_with fail
      refine (HI.out _ HA.out.pr).mono ?_
      rintro e w2 ⟨rfl, hg⟩
      have hz2 := hg.size
      simp at hz2
      have HA := Lib.hid (HA.out.call hg)
      have NN := Lib.hid (blk_call NN.out hg (by simp))
      have BB := Lib.hid (blk_call BB.out hg (by simp))
      have HR := Lib.hid (HR.out.grow hg)
      clear hg hzA
      obtain ⟨b0, b1, b2, b3, f0, f1, f2, f3⟩ := cells4_of w2 w1.heap.size _ _ _ _ _ BB.out
      go_wp2_with fail
      have HC := Lib.hid (record_any C d R HL.out t (.slice sa sn sc) (w.heap.size + 1) [w1.heap.size] (by omega) w2 i1 HA.out.pr HR.out)
      generalize hR9 : recordP R t (C.toks.drop i1) = R9 at *
      clear hR9
      unfold tyV at HC
      refine (HC.out).mono ?_
      rcases R9 with ⟨u, rr⟩ | ⟨p, er⟩
      rotate_left
      · rintro e wc ⟨hg, i9, d9, rfl, hdd, hp9⟩
        exact ⟨rfl, (HA.out.turn hg hp9).errOut (HDC.out)⟩
      rintro e wc ⟨hg, v9, i9, rfl, ⟨ofu, kvu, rfl, hof, hok⟩, hp9, rfl⟩
      obtain ⟨fa, fn, fc, rfl⟩ := hof.isSlice
      obtain ⟨ga, gn, gc, rfl⟩ := RepK.isSlice hok
      have hz9 := hg.size
      have HA := Lib.hid (HA.out.turn hg hp9)
      have NN := Lib.hid (blk_call NN.out hg (by simp; omega))
      have HRo := Lib.hid (hof.mono (S' := fun g => w.heap.size + 1 ≤ g) (fun g hs _ => by rcases hs with e | e; exact e.1; omega) (fun _ _ _ => rfl))
      have HRk := Lib.hid (hok.mono (S' := fun g => w.heap.size + 1 ≤ g) (fun g hs _ => by rcases hs with e | e; exact e.1; omega) (fun _ _ _ => rfl))
      clear hg hp9 hof hok
      obtain ⟨⟨z0, z1, z2, z3, z4, z5, z6, z7⟩, y0, y1, y2, y3, y4, y5, y6, y7⟩ := cells8_of wc w.heap.size _ _ _ _ _ _ _ _ _ NN.out
      have hz8 : w.heap.size < wc.heap.size := lt_of_heap NN.out
      unfold ndV
      go_wp2_with fail
      have N9 := blk_put8 NN.out (.int .i64 u.kind) (.string ⟨u.text.toArray⟩) (.int .i64 u.num) (.int .i64 u.typ.kind) (.int .i64 u.typ.num) (.string ⟨u.typ.name.toArray⟩) (.slice fa fn fc) (.slice ga gn gc)
      have K9 := keepsOn8 (S := fun g => w.heap.size + 1 ≤ g) wc (b := w.heap.size) (by omega) (.int .i64 u.kind) (.string ⟨u.text.toArray⟩) (.int .i64 u.num) (.int .i64 u.typ.kind) (.int .i64 u.typ.num) (.string ⟨u.typ.name.toArray⟩) (.slice fa fn fc) (.slice ga gn gc)
      have A9 := At.set8 (b := w.heap.size) HA.out (by omega) (.int .i64 u.kind) (.string ⟨u.text.toArray⟩) (.int .i64 u.num) (.int .i64 u.typ.kind) (.int .i64 u.typ.num) (.string ⟨u.typ.name.toArray⟩) (.slice fa fn fc) (.slice ga gn gc)
      obtain ⟨⟨s0, s1, s2, s3, s4, s5, s6, s7⟩, _⟩ := cells8_of _ _ _ _ _ _ _ _ _ _ _ N9
      refine bodyPost_ret (v := ndV u (.slice fa fn fc) (.slice ga gn gc)) (by simp [results, Tryz.results45, go_sem, s0, s1, s2, s3, s4, s5, s6, s7]; rfl) rfl ?_
      exact A9.okOut (HDC.out) ⟨_, _, rfl, HRo.out.mono (fun g hs _ => by have h7 : w.heap.size + 1 ≤ g := hs; show w.heap.size ≤ g; omega) (fun g hs hg => K9.2 g hs hg), HRk.out.mono (fun g hs _ => by have h7 : w.heap.size + 1 ≤ g := hs; show w.heap.size ≤ g; omega) (fun g hs hg => K9.2 g hs hg)⟩ rfl
    | false =>
      have hno : ¬ (t.name ≠ [] ∧ isP [123] (C.toks.drop i1) = true) := fun e => by rw [g3] at e; exact absurd e.2 (by simp)
      have HI := Lib.hid (fun w' (h' : Pr C w' i1 d) => is_is false C w' i1 d h' [123] g3)
      go_wp2_with fail
      refine (HI.out _ HA.out.pr).mono ?_
      rintro e wA ⟨rfl, hg⟩
      have hz2 := hg.size
      simp at hz2
      have HA := Lib.hid (HA.out.call hg)
      have NN := Lib.hid (blk_call NN.out hg (by simp))
      have BB := Lib.hid (blk_call BB.out hg (by simp))
      have HR := Lib.hid (HR.out.grow hg)
      have hzA : w1.heap.size < wA.heap.size := by omega
      clear hg
      obtain ⟨b0, b1, b2, b3, f0, f1, f2, f3⟩ := cells4_of wA w1.heap.size _ _ _ _ _ BB.out
      go_wp2_with fail
      clear b0 b1 b2 b3 f0 f1 f2 f3
      refine (stars_any C (w.heap.size + 1) [w1.heap.size] (by omega) t (.slice sa sn sc) wA i1 d HA.out.pr (by omega) (by intro x hx; simp at hx; subst hx; omega) HR.out).mono ?_
      rintro e w3 ⟨hg, v3, i3, rfl, hof, hp3, hd3⟩
      generalize hst : starsP (C.toks.drop i1) t = st at *
      obtain ⟨ba, bn, bc, rfl⟩ := hof.isSlice
      have hz3 := hg.size
      have HA := Lib.hid (HA.out.turn hg hp3)
      have BB := Lib.hid (blk_call BB.out hg (by simp; omega))
      have NN := Lib.hid (blk_call NN.out hg (by simp; omega))
      have HR := Lib.hid (hof.join (by omega) (by intro x hx; simp at hx; subst hx; omega))
      have HD3 := Lib.hid hd3
      have HST := Lib.hid hst
      have hi3 := hp3.lt
      have hfin := hp3.fin
      clear hg hp3 hof hst hd3
      obtain ⟨b0, b1, b2, b3, f0, f1, f2, f3⟩ := cells4_of w3 w1.heap.size _ _ _ _ _ BB.out
      have hzL : w1.heap.size < w3.heap.size := lt_of_heap BB.out
      unfold tyV
      go_wp2_with fail
      have HA := Lib.hid (At.set4 (b := w1.heap.size) HA.out (by omega) (.int .i64 st.1.kind) (.int .i64 st.1.num) (.string ⟨st.1.name.toArray⟩) (.slice ba bn bc))
      have K4 := keepsOn4 (S := fun g => g ≠ w1.heap.size) w3 (b := w1.heap.size) (by simp) (.int .i64 st.1.kind) (.int .i64 st.1.num) (.string ⟨st.1.name.toArray⟩) (.slice ba bn bc)
      have NN := Lib.hid ((K4.2 w.heap.size (by omega) (lt_of_heap NN.out)).trans NN.out)
      have HR := Lib.hid (HR.out.mono (w' := _) (S' := Sx (w.heap.size + 1) [w1.heap.size]) (fun _ hs _ => hs) (fun g hs hg => K4.2 g (fun e => hs.2 (by simp [e])) hg))
      have BB := Lib.hid (blk_put4 BB.out (.int .i64 st.1.kind) (.int .i64 st.1.num) (.string ⟨st.1.name.toArray⟩) (.slice ba bn bc))
      have hs4 : w3.heap.size = ((((w3.setCell ⟨w1.heap.size, 0, none⟩ (.int .i64 st.1.kind)).setCell ⟨w1.heap.size, 1, none⟩ (.int .i64 st.1.num)).setCell ⟨w1.heap.size, 2, none⟩ (.string ⟨st.1.name.toArray⟩)).setCell ⟨w1.heap.size, 3, none⟩ (.slice ba bn bc)).heap.size := by simp [World.setCell]
      generalize ((((w3.setCell ⟨w1.heap.size, 0, none⟩ (.int .i64 st.1.kind)).setCell ⟨w1.heap.size, 1, none⟩ (.int .i64 st.1.num)).setCell ⟨w1.heap.size, 2, none⟩ (.string ⟨st.1.name.toArray⟩)).setCell ⟨w1.heap.size, 3, none⟩ (.slice ba bn bc)) = w4 at *
      clear K4 b0 b1 b2 b3 f0 f1 f2 f3
      have HTk := Lib.hid (token_any C w4 i3 d HA.out.pr _ (hd_at _ _ hi3))
      have hfn := hfin i3 _ (hd_at _ _ hi3)
      have HDC := Lib.hid (show itemP R R1 (C.toks.drop i) = if (hdT (C.toks.drop i3)).kind = 1 ∧ isP [40] (C.toks.drop (i3 + 1)) = true then functionP R R1 st.1 (C.toks.drop i3) else (declaredP R 21 st.1 (C.toks.drop i3)).bind fun n r1 => (wantP [59] r1).bind fun _ r2 => .ok n r2 by
        unfold itemP
        rw [HE1.out, PR.bind_ok, if_neg hno]
        dsimp only
        rw [HST.out, ← HD3.out, tl_at])
      generalize htk : hdT (C.toks.drop i3) = tk at *
      unfold tkV at HTk
      refine HTk.out.mono ?_
      rintro e w5 ⟨rfl, hg⟩
      have hz5 := hg.size
      have HA := Lib.hid (HA.out.call hg)
      have NN := Lib.hid (blk_call NN.out hg (by simp))
      have BB := Lib.hid (blk_call BB.out hg (by simp))
      have HR := Lib.hid (HR.out.grow hg)
      clear hg
      obtain ⟨b0, b1, b2, b3, f0, f1, f2, f3⟩ := cells4_of w5 w1.heap.size _ _ _ _ _ BB.out
      by_cases h1 : tk.kind = 1
      · have k1 : (tk.kind == 1) = true := by simp [h1]
        have hl : i3 + 1 < C.toks.length := hfn (Or.inr (by omega))
        have HS := Lib.hid (second_any C w5 i3 d HA.out.pr _ (hd_at _ _ hl))
        have HDC := Lib.hid (show itemP R R1 (C.toks.drop i) = if ((hdT (C.toks.drop (i3 + 1))).text == [40]) = true then functionP R R1 st.1 (C.toks.drop i3) else (declaredP R 21 st.1 (C.toks.drop i3)).bind fun n r1 => (wantP [59] r1).bind fun _ r2 => .ok n r2 by
          rw [HDC.out]; unfold isP; simp only [h1, true_and])
        generalize hdT (C.toks.drop (i3 + 1)) = t2 at *
        unfold tkV at HS
        clear h1
        go_wp2_with fail
        refine HS.out.mono ?_
        rintro e w6 ⟨rfl, hg⟩
        have hz6 := hg.size
        have HA := Lib.hid (HA.out.call hg)
        have NN := Lib.hid (blk_call NN.out hg (by simp))
        have BB := Lib.hid (blk_call BB.out hg (by simp))
        have HR := Lib.hid (HR.out.grow hg)
        clear hg b0 b1 b2 b3 f0 f1 f2 f3
        obtain ⟨b0, b1, b2, b3, f0, f1, f2, f3⟩ := cells4_of w6 w1.heap.size _ _ _ _ _ BB.out
        cases g2 : t2.text == [40] with
        | true =>
          have HDC := Lib.hid (HDC.out.trans (if_pos g2))
          go_wp2_with fail
          have HC := Lib.hid (function_any C d R R1 hd60 HL.out HL1.out HSl.out st.1 (.slice ba bn bc) (w.heap.size + 1) [w1.heap.size] (by omega) w6 i3 HA.out.pr HR.out)
          generalize hR9 : functionP R R1 st.1 (C.toks.drop i3) = R9 at *
          clear hR9
          unfold tyV at HC
          refine (HC.out).mono ?_
          rcases R9 with ⟨u, rr⟩ | ⟨p, er⟩
          rotate_left
          · rintro e wc ⟨hg, i9, d9, rfl, hdd, hp9⟩
            exact ⟨rfl, (HA.out.turn hg hp9).errOut (HDC.out)⟩
          rintro e wc ⟨hg, v9, i9, rfl, ⟨ofu, kvu, rfl, hof, hok⟩, hp9, rfl⟩
          obtain ⟨fa, fn, fc, rfl⟩ := hof.isSlice
          obtain ⟨ga, gn, gc, rfl⟩ := RepK.isSlice hok
          have hz9 := hg.size
          have HA := Lib.hid (HA.out.turn hg hp9)
          have NN := Lib.hid (blk_call NN.out hg (by simp; omega))
          have HRo := Lib.hid (hof.mono (S' := fun g => w.heap.size + 1 ≤ g) (fun g hs _ => by rcases hs with e | e; exact e.1; omega) (fun _ _ _ => rfl))
          have HRk := Lib.hid (hok.mono (S' := fun g => w.heap.size + 1 ≤ g) (fun g hs _ => by rcases hs with e | e; exact e.1; omega) (fun _ _ _ => rfl))
          clear hg hp9 hof hok
          obtain ⟨⟨z0, z1, z2, z3, z4, z5, z6, z7⟩, y0, y1, y2, y3, y4, y5, y6, y7⟩ := cells8_of wc w.heap.size _ _ _ _ _ _ _ _ _ NN.out
          have hz8 : w.heap.size < wc.heap.size := lt_of_heap NN.out
          unfold ndV
          go_wp2_with fail
          have N9 := blk_put8 NN.out (.int .i64 u.kind) (.string ⟨u.text.toArray⟩) (.int .i64 u.num) (.int .i64 u.typ.kind) (.int .i64 u.typ.num) (.string ⟨u.typ.name.toArray⟩) (.slice fa fn fc) (.slice ga gn gc)
          have K9 := keepsOn8 (S := fun g => w.heap.size + 1 ≤ g) wc (b := w.heap.size) (by omega) (.int .i64 u.kind) (.string ⟨u.text.toArray⟩) (.int .i64 u.num) (.int .i64 u.typ.kind) (.int .i64 u.typ.num) (.string ⟨u.typ.name.toArray⟩) (.slice fa fn fc) (.slice ga gn gc)
          have A9 := At.set8 (b := w.heap.size) HA.out (by omega) (.int .i64 u.kind) (.string ⟨u.text.toArray⟩) (.int .i64 u.num) (.int .i64 u.typ.kind) (.int .i64 u.typ.num) (.string ⟨u.typ.name.toArray⟩) (.slice fa fn fc) (.slice ga gn gc)
          obtain ⟨⟨s0, s1, s2, s3, s4, s5, s6, s7⟩, _⟩ := cells8_of _ _ _ _ _ _ _ _ _ _ _ N9
          refine bodyPost_ret (v := ndV u (.slice fa fn fc) (.slice ga gn gc)) (by simp [results, Tryz.results45, go_sem, s0, s1, s2, s3, s4, s5, s6, s7]; rfl) rfl ?_
          exact A9.okOut (HDC.out) ⟨_, _, rfl, HRo.out.mono (fun g hs _ => by have h7 : w.heap.size + 1 ≤ g := hs; show w.heap.size ≤ g; omega) (fun g hs hg => K9.2 g hs hg), HRk.out.mono (fun g hs _ => by have h7 : w.heap.size + 1 ≤ g := hs; show w.heap.size ≤ g; omega) (fun g hs hg => K9.2 g hs hg)⟩ rfl
        | false =>
          have HDC := Lib.hid (HDC.out.trans (if_neg (by rw [g2]; simp)))
          go_wp2_with fail
          have HC := Lib.hid (declared_any C d R HL.out 21 st.1 (.slice ba bn bc) (w.heap.size + 1) [w1.heap.size] (by omega) w6 i3 HA.out.pr (by omega) (by intro x hx; simp at hx; subst hx; omega) HR.out)
          generalize hR9 : declaredP R 21 st.1 (C.toks.drop i3) = R9 at *
          clear hR9
          unfold tyV at HC
          refine HC.out.mono ?_
          rcases R9 with ⟨u, rr⟩ | ⟨p, er⟩
          rotate_left
          · rintro e wc ⟨hg, i9, d9, rfl, hdd, hp9⟩
            exact ⟨rfl, (HA.out.turn hg hp9).errOut (HDC.out.trans rfl)⟩
          rintro e wc ⟨hg, v9, i9, rfl, ⟨ofu, rfl, hof, hok⟩, hp9, rfl⟩
          obtain ⟨fa, fn, fc, rfl⟩ := hof.isSlice
          have hz9 := hg.size
          have HA := Lib.hid ((HA.out.turn hg hp9).alloc (.cells #[.int .i64 u.kind, .string ⟨u.text.toArray⟩, .int .i64 u.num, .int .i64 u.typ.kind, .int .i64 u.typ.num, .string ⟨u.typ.name.toArray⟩, .slice fa fn fc, .slice none 0 0] 28 (0, 0)))
          have NN := Lib.hid (blk_alloc (blk_call NN.out hg (by simp; omega)) (.cells #[.int .i64 u.kind, .string ⟨u.text.toArray⟩, .int .i64 u.num, .int .i64 u.typ.kind, .int .i64 u.typ.num, .string ⟨u.typ.name.toArray⟩, .slice fa fn fc, .slice none 0 0] 28 (0, 0)))
          have UU := Lib.hid (blk_new wc (.cells #[.int .i64 u.kind, .string ⟨u.text.toArray⟩, .int .i64 u.num, .int .i64 u.typ.kind, .int .i64 u.typ.num, .string ⟨u.typ.name.toArray⟩, .slice fa fn fc, .slice none 0 0] 28 (0, 0)))
          have HRo := Lib.hid ((hof.mono (S' := fun g => w.heap.size + 1 ≤ g) (fun g hs _ => by rcases hs with e | e; exact e.1; omega) (fun _ _ _ => rfl)).kept ((Kept.refl _ wc).alloc (.cells #[.int .i64 u.kind, .string ⟨u.text.toArray⟩, .int .i64 u.num, .int .i64 u.typ.kind, .int .i64 u.typ.num, .string ⟨u.typ.name.toArray⟩, .slice fa fn fc, .slice none 0 0] 28 (0, 0))))
          have HK := Lib.hid hok
          have HW := Lib.hid (fun w' (h' : Pr C w' i9 d) => want_any C w' i9 d h' [59] (by simp))
          generalize hR8 : wantP [59] (C.toks.drop i9) = R8 at *
          have HE8 := Lib.hid hR8
          clear hg hp9 hof hok hR8
          unfold ndV
          go_wp2_with fail
          refine (HW.out _ HA.out.pr).mono ?_
          rcases R8 with ⟨u8, rr⟩ | ⟨p, er⟩
          rotate_left
          · rintro e w8 ⟨hg, i8, d8, rfl, hdd, hp8⟩
            exact ⟨rfl, (HA.out.turn hg hp8).errOut (by rw [HDC.out, PR.bind_ok, HE8.out]; rfl)⟩
          rintro e w8 ⟨hg, v8, i8, rfl, hv8, hp8, rfl⟩
          have hv' : v8 = .tuple #[] := hv8
          subst hv'
          have hz8' := hg.size
          simp at hz8'
          have HA := Lib.hid (HA.out.turn hg hp8)
          have NN := Lib.hid (blk_call NN.out hg (by simp; omega))
          have UU := Lib.hid (blk_call UU.out hg (by simp; omega))
          have HRo := Lib.hid (HRo.out.mono (S' := fun g => w.heap.size + 1 ≤ g) (fun _ hs _ => hs) (fun g hs hl => hg.block g hl (by have h7 : w.heap.size + 1 ≤ g := hs; simp; omega)))
          have HRk := Lib.hid (show RepK w8 (fun g => w.heap.size + 1 ≤ g) (.slice none 0 0) u.kids by rw [HK.out]; exact RepK.nil _ _)
          obtain ⟨⟨m0, m1, m2, m3, m4, m5, m6, m7⟩, _⟩ := cells8_of w8 wc.heap.size _ _ _ _ _ _ _ _ _ UU.out
          have hzu : wc.heap.size < w8.heap.size := lt_of_heap UU.out
          clear hg hp8 hv8
          obtain ⟨⟨z0, z1, z2, z3, z4, z5, z6, z7⟩, y0, y1, y2, y3, y4, y5, y6, y7⟩ := cells8_of w8 w.heap.size _ _ _ _ _ _ _ _ _ NN.out
          have hz8 : w.heap.size < w8.heap.size := lt_of_heap NN.out
          go_wp2_with fail
          have N9 := blk_put8 NN.out (.int .i64 u.kind) (.string ⟨u.text.toArray⟩) (.int .i64 u.num) (.int .i64 u.typ.kind) (.int .i64 u.typ.num) (.string ⟨u.typ.name.toArray⟩) (.slice fa fn fc) (.slice none 0 0)
          have K9 := keepsOn8 (S := fun g => w.heap.size + 1 ≤ g) w8 (b := w.heap.size) (by omega) (.int .i64 u.kind) (.string ⟨u.text.toArray⟩) (.int .i64 u.num) (.int .i64 u.typ.kind) (.int .i64 u.typ.num) (.string ⟨u.typ.name.toArray⟩) (.slice fa fn fc) (.slice none 0 0)
          have A9 := At.set8 (b := w.heap.size) HA.out (by omega) (.int .i64 u.kind) (.string ⟨u.text.toArray⟩) (.int .i64 u.num) (.int .i64 u.typ.kind) (.int .i64 u.typ.num) (.string ⟨u.typ.name.toArray⟩) (.slice fa fn fc) (.slice none 0 0)
          obtain ⟨⟨s0, s1, s2, s3, s4, s5, s6, s7⟩, _⟩ := cells8_of _ _ _ _ _ _ _ _ _ _ _ N9
          refine bodyPost_ret (v := ndV u (.slice fa fn fc) (.slice none 0 0)) (by simp [results, Tryz.results45, go_sem, s0, s1, s2, s3, s4, s5, s6, s7]; rfl) rfl ?_
          exact A9.okOut (by rw [HDC.out, PR.bind_ok, HE8.out]; rfl) ⟨_, _, rfl, HRo.out.mono (fun g hs _ => by have h7 : w.heap.size + 1 ≤ g := hs; show w.heap.size ≤ g; omega) (fun g hs hg => K9.2 g hs hg), HRk.out.mono (fun g hs _ => by have h7 : w.heap.size + 1 ≤ g := hs; show w.heap.size ≤ g; omega) (fun g hs hg => K9.2 g hs hg)⟩ rfl
      · have k1 : (tk.kind == 1) = false := by simp [h1]
        have HDC := Lib.hid (HDC.out.trans (if_neg (fun e => h1 e.1)))
        clear h1
        go_wp2_with fail
        have HC := Lib.hid (declared_any C d R HL.out 21 st.1 (.slice ba bn bc) (w.heap.size + 1) [w1.heap.size] (by omega) w5 i3 HA.out.pr (by omega) (by intro x hx; simp at hx; subst hx; omega) HR.out)
        generalize hR9 : declaredP R 21 st.1 (C.toks.drop i3) = R9 at *
        clear hR9
        unfold tyV at HC
        refine HC.out.mono ?_
        rcases R9 with ⟨u, rr⟩ | ⟨p, er⟩
        rotate_left
        · rintro e wc ⟨hg, i9, d9, rfl, hdd, hp9⟩
          exact ⟨rfl, (HA.out.turn hg hp9).errOut (HDC.out.trans rfl)⟩
        rintro e wc ⟨hg, v9, i9, rfl, ⟨ofu, rfl, hof, hok⟩, hp9, rfl⟩
        obtain ⟨fa, fn, fc, rfl⟩ := hof.isSlice
        have hz9 := hg.size
        have HA := Lib.hid ((HA.out.turn hg hp9).alloc (.cells #[.int .i64 u.kind, .string ⟨u.text.toArray⟩, .int .i64 u.num, .int .i64 u.typ.kind, .int .i64 u.typ.num, .string ⟨u.typ.name.toArray⟩, .slice fa fn fc, .slice none 0 0] 28 (0, 0)))
        have NN := Lib.hid (blk_alloc (blk_call NN.out hg (by simp; omega)) (.cells #[.int .i64 u.kind, .string ⟨u.text.toArray⟩, .int .i64 u.num, .int .i64 u.typ.kind, .int .i64 u.typ.num, .string ⟨u.typ.name.toArray⟩, .slice fa fn fc, .slice none 0 0] 28 (0, 0)))
        have UU := Lib.hid (blk_new wc (.cells #[.int .i64 u.kind, .string ⟨u.text.toArray⟩, .int .i64 u.num, .int .i64 u.typ.kind, .int .i64 u.typ.num, .string ⟨u.typ.name.toArray⟩, .slice fa fn fc, .slice none 0 0] 28 (0, 0)))
        have HRo := Lib.hid ((hof.mono (S' := fun g => w.heap.size + 1 ≤ g) (fun g hs _ => by rcases hs with e | e; exact e.1; omega) (fun _ _ _ => rfl)).kept ((Kept.refl _ wc).alloc (.cells #[.int .i64 u.kind, .string ⟨u.text.toArray⟩, .int .i64 u.num, .int .i64 u.typ.kind, .int .i64 u.typ.num, .string ⟨u.typ.name.toArray⟩, .slice fa fn fc, .slice none 0 0] 28 (0, 0))))
        have HK := Lib.hid hok
        have HW := Lib.hid (fun w' (h' : Pr C w' i9 d) => want_any C w' i9 d h' [59] (by simp))
        generalize hR8 : wantP [59] (C.toks.drop i9) = R8 at *
        have HE8 := Lib.hid hR8
        clear hg hp9 hof hok hR8
        unfold ndV
        go_wp2_with fail
        refine (HW.out _ HA.out.pr).mono ?_
        rcases R8 with ⟨u8, rr⟩ | ⟨p, er⟩
        rotate_left
        · rintro e w8 ⟨hg, i8, d8, rfl, hdd, hp8⟩
          exact ⟨rfl, (HA.out.turn hg hp8).errOut (by rw [HDC.out, PR.bind_ok, HE8.out]; rfl)⟩
        rintro e w8 ⟨hg, v8, i8, rfl, hv8, hp8, rfl⟩
        have hv' : v8 = .tuple #[] := hv8
        subst hv'
        have hz8' := hg.size
        simp at hz8'
        have HA := Lib.hid (HA.out.turn hg hp8)
        have NN := Lib.hid (blk_call NN.out hg (by simp; omega))
        have UU := Lib.hid (blk_call UU.out hg (by simp; omega))
        have HRo := Lib.hid (HRo.out.mono (S' := fun g => w.heap.size + 1 ≤ g) (fun _ hs _ => hs) (fun g hs hl => hg.block g hl (by have h7 : w.heap.size + 1 ≤ g := hs; simp; omega)))
        have HRk := Lib.hid (show RepK w8 (fun g => w.heap.size + 1 ≤ g) (.slice none 0 0) u.kids by rw [HK.out]; exact RepK.nil _ _)
        obtain ⟨⟨m0, m1, m2, m3, m4, m5, m6, m7⟩, _⟩ := cells8_of w8 wc.heap.size _ _ _ _ _ _ _ _ _ UU.out
        have hzu : wc.heap.size < w8.heap.size := lt_of_heap UU.out
        clear hg hp8 hv8
        obtain ⟨⟨z0, z1, z2, z3, z4, z5, z6, z7⟩, y0, y1, y2, y3, y4, y5, y6, y7⟩ := cells8_of w8 w.heap.size _ _ _ _ _ _ _ _ _ NN.out
        have hz8 : w.heap.size < w8.heap.size := lt_of_heap NN.out
        go_wp2_with fail
        have N9 := blk_put8 NN.out (.int .i64 u.kind) (.string ⟨u.text.toArray⟩) (.int .i64 u.num) (.int .i64 u.typ.kind) (.int .i64 u.typ.num) (.string ⟨u.typ.name.toArray⟩) (.slice fa fn fc) (.slice none 0 0)
        have K9 := keepsOn8 (S := fun g => w.heap.size + 1 ≤ g) w8 (b := w.heap.size) (by omega) (.int .i64 u.kind) (.string ⟨u.text.toArray⟩) (.int .i64 u.num) (.int .i64 u.typ.kind) (.int .i64 u.typ.num) (.string ⟨u.typ.name.toArray⟩) (.slice fa fn fc) (.slice none 0 0)
        have A9 := At.set8 (b := w.heap.size) HA.out (by omega) (.int .i64 u.kind) (.string ⟨u.text.toArray⟩) (.int .i64 u.num) (.int .i64 u.typ.kind) (.int .i64 u.typ.num) (.string ⟨u.typ.name.toArray⟩) (.slice fa fn fc) (.slice none 0 0)
        obtain ⟨⟨s0, s1, s2, s3, s4, s5, s6, s7⟩, _⟩ := cells8_of _ _ _ _ _ _ _ _ _ _ _ N9
        refine bodyPost_ret (v := ndV u (.slice fa fn fc) (.slice none 0 0)) (by simp [results, Tryz.results45, go_sem, s0, s1, s2, s3, s4, s5, s6, s7]; rfl) rfl ?_
        exact A9.okOut (by rw [HDC.out, PR.bind_ok, HE8.out]; rfl) ⟨_, _, rfl, HRo.out.mono (fun g hs _ => by have h7 : w.heap.size + 1 ≤ g := hs; show w.heap.size ≤ g; omega) (fun g hs hg => K9.2 g hs hg), HRk.out.mono (fun g hs _ => by have h7 : w.heap.size + 1 ≤ g := hs; show w.heap.size ≤ g; omega) (fun g hs hg => K9.2 g hs hg)⟩ rfl

end Go.Proofs.YtkbplcfehllbjaaGreatDoor
/- unit. -/
namespace Go.Proofs.YtkbplcfehllbjaaGreatDoor
open Go.RowKit
attribute [local go_sem ↓] Go.wp_at_zero Go.wp_at_succ
theorem ShrLe.recordStep {R : Rec} (h : RecShr R) (l : List Nd) : ShrLe (recordStep R l) := by
  unfold Go.Proofs.YtkbplcfehllbjaaGreatDoor.recordStep
  exact ShrLe.ite (Shr.pureT _).le (ShrLe.bind (Shr.decl h).le fun _ => ShrLe.bind (Shr.want _).le fun _ => ShrLe.pure _)
theorem Shr.record {R : Rec} (h : RecShr R) (t : Ty) : Shr (recordP R t) := by
  unfold recordP
  exact Shr.bind (Shr.want _) fun _ => ShrLe.bind (ShrLe.loopN (ShrLe.recordStep h) []) fun _ => ShrLe.bind (Shr.want _).le fun _ => ShrLe.pure _
theorem Shr.function {R R1 : Rec} (h : RecShr R) (h1 : RecShr R1) (t : Ty) : Shr (functionP R R1 t) := by
  unfold functionP
  exact Shr.bind Shr.name fun _ => ShrLe.bind (Shr.list (Shr.decl h).le).le fun _ => ShrLe.bind (Shr.block h1).le fun _ => ShrLe.pure _
theorem Shr.item {R R1 : Rec} (h : RecShr R) (h1 : RecShr R1) : Shr (itemP R R1) := by
  unfold itemP
  refine Shr.bind Shr.base fun t => ShrLe.ite (Shr.record h t).le ?_
  intro ts a r e
  have hl := stars_le ts t
  dsimp only at e
  by_cases hc : (hdT (starsP ts t).2).kind = 1 ∧ isP [40] (starsP ts t).2.tail = true
  · rw [if_pos hc] at e
    have := (Shr.function h h1 _).le _ a r e
    omega
  · rw [if_neg hc] at e
    have := (Shr.bind (Shr.declared h 21 (starsP ts t).1) (q := fun n r1 => (wantP [59] r1).bind fun _ r2 => .ok n r2) fun n => ShrLe.bind (Shr.want _).le fun _ => ShrLe.pure _).le _ a r e
    omega
/-- Every level's contract. -/
theorem lev_all (C : Ctx) (f d : Nat) (h : d + f = 60) : Lev C d (recAt f) := lev_at C (fun d R L => decl_any C d R L) f d h
set_option maxRecDepth 100000 in
set_option maxHeartbeats 4000000 in
theorem unit_any (C : Ctx) (w : World) (i : Nat) (h : Pr C w i 0) :
    Calls Tryz.prog 33 #[C.p] w (Out C w 0 (unitP (C.toks.drop i)) (fun t => ndVal t w)) := by
  have HP := Lib.hid h.at
  have hbp := lt_of_heap h.blk
  have hlen := h.len
  have hi0 := h.lt
  have HX := Lib.hid (item_any C 0 (recAt 60) (recAt 59) (by omega) (lev_all C 60 0 rfl) (lev_all C 59 1 rfl) (recSlim 60))
  have HSh := Lib.hid (Shr.item (RecShr.at 60) (RecShr.at 59))
  have hp : C.p = .pointer (some ⟨C.bp, 0, none⟩) := rfl
  unfold unitP
  generalize recAt 60 = R at *
  generalize recAt 59 = R1 at *
  clear h
  have hft0 := field_tok0
  go_enter Tryz.func33, Tryz.ntmps33
  go_wp2_with fail
  have HA1 := Lib.hid ((HP.out.alloc (.cells #[.int .i64 0, .string ⟨#[]⟩, .int .i64 0, .int .i64 0, .int .i64 0, .string ⟨#[]⟩, .slice none 0 0, .slice none 0 0] 28)).alloc (.cells #[.int .i64 23, .string ⟨#[]⟩, .int .i64 0, .int .i64 0, .int .i64 0, .string ⟨#[]⟩, .slice none 0 0, .slice none 0 0] 28))
  have B1 := Lib.hid (blk_alloc (blk_new w (.cells #[.int .i64 0, .string ⟨#[]⟩, .int .i64 0, .int .i64 0, .int .i64 0, .string ⟨#[]⟩, .slice none 0 0, .slice none 0 0] 28)) (.cells #[.int .i64 23, .string ⟨#[]⟩, .int .i64 0, .int .i64 0, .int .i64 0, .string ⟨#[]⟩, .slice none 0 0, .slice none 0 0] 28))
  have N1 := Lib.hid (blk_new (w.alloc (.cells #[.int .i64 0, .string ⟨#[]⟩, .int .i64 0, .int .i64 0, .int .i64 0, .string ⟨#[]⟩, .slice none 0 0, .slice none 0 0] 28)) (.cells #[.int .i64 23, .string ⟨#[]⟩, .int .i64 0, .int .i64 0, .int .i64 0, .string ⟨#[]⟩, .slice none 0 0, .slice none 0 0] 28))
  rw [show (w.alloc (.cells #[.int .i64 0, .string ⟨#[]⟩, .int .i64 0, .int .i64 0, .int .i64 0, .string ⟨#[]⟩, .slice none 0 0, .slice none 0 0] 28)).heap.size = w.heap.size + 1 by simp] at N1
  have hwL : w.heap.size < w.heap.size + 1 := by omega
  have hbL : C.bp < w.heap.size + 1 := by omega
  have hL1 : w.heap.size + 1 < ((w.alloc (.cells #[.int .i64 0, .string ⟨#[]⟩, .int .i64 0, .int .i64 0, .int .i64 0, .string ⟨#[]⟩, .slice none 0 0, .slice none 0 0] 28)).alloc (.cells #[.int .i64 23, .string ⟨#[]⟩, .int .i64 0, .int .i64 0, .int .i64 0, .string ⟨#[]⟩, .slice none 0 0, .slice none 0 0] 28)).heap.size := by simp
  generalize (w.alloc (.cells #[.int .i64 0, .string ⟨#[]⟩, .int .i64 0, .int .i64 0, .int .i64 0, .string ⟨#[]⟩, .slice none 0 0, .slice none 0 0] 28)).alloc (.cells #[.int .i64 23, .string ⟨#[]⟩, .int .i64 0, .int .i64 0, .int .i64 0, .string ⟨#[]⟩, .slice none 0 0, .slice none 0 0] 28) = w1 at *
  generalize w.heap.size + 1 = L1 at *
  have hwL' : ¬ w.heap.size = L1 := by omega
  have hLb : ¬ L1 = C.bp := by omega
  have hwb : ¬ w.heap.size = C.bp := by omega
  go_loopg [] (C.toks.length - i) (fun g wr => ∃ (i' m : Nat) (l : List Nd) (va : Option Addr) (vn vc : Nat) (cells : List Value), g = C.toks.length - i' ∧ i' < C.toks.length ∧ C.toks.length - i' < m ∧ l.length ≤ i' ∧ L1 < wr.heap.size ∧ Hid (At C w wr i' 0) ∧ Hid (wr.heap[w.heap.size]? = some (.cells #[.int .i64 0, .string ⟨#[]⟩, .int .i64 0, .int .i64 0, .int .i64 0, .string ⟨#[]⟩, .slice none 0 0, .slice none 0 0] 28)) ∧
    Hid (wr.heap[L1]? = some (.cells #[.int .i64 23, .string ⟨#[]⟩, .int .i64 0, .int .i64 0, .int .i64 0, .string ⟨#[]⟩, .slice none 0 0, .slice va vn vc] 28)) ∧ Hid (GrowN wr (L1 + 1) (.slice va vn vc) l cells) ∧ Hid (loopP (unitStep R R1) ((C.toks.drop i).length + 1) [] (C.toks.drop i) = loopP (unitStep R R1) m l (C.toks.drop i')))
  case atStart => exact ⟨i, (C.toks.drop i).length + 1, [], none, 0, 0, [], rfl, hi0, by simp, by simp, hL1, HA1.out, B1.out, N1.out, GrowN.nil _ _, rfl⟩
  case round =>
    obtain ⟨i', m, l, va, vn, vc, cells, rfl, hi', hm, hll, hLz, hat, hb0, hb1, hG, hE⟩ := hrel
    obtain ⟨m, rfl⟩ : ∃ k, m = k + 1 := ⟨m - 1, by omega⟩
    clear HA1 B1 N1
    have HTk := Lib.hid (token_any C wr i' 0 hat.out.pr _ (hd_at _ _ hi'))
    have HSt := Lib.hid (show unitStep R R1 l (C.toks.drop i') = if (hdT (C.toks.drop i')).kind = 0 then .ok (.inr l) (C.toks.drop i') else (itemP R R1 (C.toks.drop i')).bind fun n r => .ok (.inl (l ++ [n])) r from rfl)
    generalize hdT (C.toks.drop i') = tk at *
    unfold tkV at HTk
    by_cases hk : tk.kind = 0
    · have HE := Lib.hid (hE.out.trans (loop_stop (HSt.out.trans (if_pos hk))))
      have kb : (tk.kind == 0) = true := by simp [hk]
      have kb2 : (tk.kind != 0) = false := by simp [hk]
      clear hk
      go_wp2_with fail
      refine HTk.out.mono ?_
      rintro e w2 ⟨rfl, hg⟩
      have HA2 := Lib.hid (hat.out.call hg)
      obtain ⟨⟨r0, r1, r2, r3, r4, r5, r6, r7⟩, e0, e1, e2, e3, e4, e5, e6, e7⟩ := cells8_of w2 w.heap.size _ _ _ _ _ _ _ _ _ (blk_call hb0.out hg (by simp))
      obtain ⟨⟨q0, q1, q2, q3, q4, q5, q6, q7⟩, _⟩ := cells8_of w2 L1 _ _ _ _ _ _ _ _ _ (blk_call hb1.out hg (by simp))
      have hz2 := hg.size
      have z1 : w.heap.size < w2.heap.size := by omega
      have z2 : L1 < w2.heap.size := by omega
      have HK := Lib.hid (((hG.out.call0 hg).done).mono (S' := Sx w.heap.size [w.heap.size]) (fun g hs _ => ⟨by omega, by simp; omega⟩) (fun _ _ _ => rfl))
      clear hg
      go_wp2_with fail
      refine bodyPost_ret (v := ndV (Nd.of 23 l) (.slice none 0 0) (.slice va vn vc)) (by simp [results, Tryz.results33, go_sem, r0, r1, r2, r3, r4, r5, r6, r7]; rfl) rfl ?_
      exact (HA2.out.set8 (Nat.le_refl _) _ _ _ _ _ _ _ _).okOut (by rw [HE.out]; rfl) ⟨_, _, rfl, RepOf.nil _ _, (HK.out.kept ((Kept.refl _ _).set8 (b := w.heap.size) (by simp) _ _ _ _ _ _ _ _)).out (Nat.le_refl _)⟩ rfl
    · have HST := Lib.hid (HSt.out.trans (if_neg hk))
      have kb : (tk.kind == 0) = false := by simp [hk]
      have kb2 : (tk.kind != 0) = true := by simp [hk]
      have HR := Lib.hid (fun w h => HX.out w i' h)
      have HS2 := Lib.hid (fun a r (e : itemP R R1 (C.toks.drop i') = .ok a r) => (HSh.out (C.toks.drop i') a r e).2 (drop_ne hi'))
      obtain ⟨i0, hi, hz0, hz1', hz2'⟩ := info_parts infoNd
      clear hk
      go_wp2_with fail
      refine HTk.out.mono ?_
      rintro e w2 ⟨rfl, hg⟩
      have HA2 := Lib.hid (hat.out.call hg)
      have Z2 := Lib.hid (blk_call hb0.out hg (by simp))
      have B2 := Lib.hid (blk_call hb1.out hg (by simp))
      have HG2 := Lib.hid (hG.out.call0 hg)
      obtain ⟨⟨q0, q1, q2, q3, q4, q5, q6, q7⟩, _⟩ := cells8_of w2 L1 _ _ _ _ _ _ _ _ _ B2.out
      have hz2 := hg.size
      have z2 : L1 < w2.heap.size := by omega
      have hown := Lib.hid (fun k hk => (HG2.out.lt k hk).2)
      have hmax : l.length + 1 ≤ maxLen := by unfold maxLen; omega
      have hbytes : (l.length + 1) * 112 ≤ 140737488355328 := by omega
      clear hg hat hb0 hb1 hG
      generalize itemP R R1 (C.toks.drop i') = R0 at *
      go_wp2_with fail
      go_region_law (first
        | (refine step_append_lies _ rfl (.tmp 10) (.tmp 13) 26 rfl (L1 + 1) 28 i0 _ 8 112 Tryz.underlying26 hi hz0 hz1' hz2' rfl (by decide) _ l.length cells rfl (HF.out.2.2.2.2.1.call0 (gr_alloc (grownBy_refl _ _) _)).1 ⟨wc.heap.size, 0, none⟩ 1 1 (ndC a (.slice da dn dc) (.slice ka kn kc)) rfl rfl (cells_at _ _ _ _) (ndC_ones _ _ _ _ _ _ _) (by omega) hmax hbytes (by simp; omega) (wc.heap.size + 1) (by simp) ?_; intro gg cap w4 hown' hgrow hat' hlt'; have HG4 := Lib.hid (And.intro (GrowN.push (HF.out.2.2.2.2.1.call0 (gr_alloc (grownBy_refl _ _) _)) (HF.out.2.2.2.2.2.1.grow (gr_alloc (grownBy_refl _ _) _)) (HF.out.2.2.2.2.2.2.grow (gr_alloc (grownBy_refl _ _) _)) hown' hgrow hat' (by simp)) (And.intro ((HF.out.1.alloc _).app hgrow (fun k hk => by have := (HF.out.2.2.2.2.1.lt k hk).1; omega)) (And.intro (blk_call (blk_alloc HF.out.2.2.1 _) hgrow (HF.out.2.2.2.2.1.far (by omega))) (blk_call (blk_alloc HF.out.2.2.2.1 _) hgrow (HF.out.2.2.2.2.1.far (by omega)))))); obtain ⟨_, e0, e1, e2, e3, e4, e5, e6, e7⟩ := cells8_of w4 L1 _ _ _ _ _ _ _ _ _ HG4.out.2.2.1; have hz4 := hgrow.size; simp at hz4; have z4 : L1 < w4.heap.size := (by omega); clear hown' hgrow hat' hlt')
        | (go_simp; go_at_call 45; refine (HR.out _ HA2.out.drew.pr).mono ?_; rcases R0 with ⟨a, r⟩ | ⟨p, er⟩; rotate_left; (rintro e wc ⟨hg, i2, d2, rfl, hdd, hp1⟩; exact ⟨rfl, (HA2.out.drew.turn hg hp1).errOut (by rw [hE.out, loop_err (HST.out.trans rfl)]; rfl)⟩); rintro e wc ⟨hg, v1, i2, rfl, ⟨ofm, km, rfl, hof, hkm⟩, hp1, hd1⟩; obtain ⟨da, dn, dc, rfl⟩ := hof.isSlice; obtain ⟨ka, kn, kc, rfl⟩ := hkm.isSlice; have hz8 := hg.size; simp at hz8; have HF := Lib.hid (And.intro (HA2.out.drew.turn hg hp1) (And.intro hd1 (And.intro (blk_call B2.out (undrew hg) (by simp; omega)) (And.intro (blk_call Z2.out (undrew hg) (by simp; omega)) (And.intro (HG2.out.call (undrew hg) (by omega)) (And.intro (GrowT.fresh hof (B := L1 + 1) (v := .slice va vn vc) (by simp; omega) (by simpa using hown.out)) (GrowN.freshK hkm (B := L1 + 1) (v := .slice va vn vc) (by simp; omega) (by simpa using hown.out)))))))); obtain ⟨⟨p0, p1, p2, p3, p4, p5, p6, p7⟩, _⟩ := cells8_of wc L1 _ _ _ _ _ _ _ _ _ HF.out.2.2.1; have hz9 : L1 < wc.heap.size := (by omega); clear hg hp1 hof hkm; unfold ndV))
      all_goals
        go_wp2_with fail
        have hd8 := HF.out.2.1
        have hs8 := HS2.out a r rfl
        rw [← hd8] at hs8
        have hi2 : i2 < C.toks.length := HF.out.1.pr.lt
        simp at hs8
        have hlt : C.toks.length - i2 < C.toks.length - i' := by omega
        have hm9 : C.toks.length - i2 < m := by omega
        have hl9 : (l ++ [a]).length ≤ i2 := by simp; omega
        go_roundg (C.toks.length - i2)
        case measure => omega
        case rel =>
          refine ⟨i2, m, l ++ [a], some ⟨gg, 0, none⟩, l.length + 1, cap, cells ++ ndC a (.slice da dn dc) (.slice ka kn kc), rfl, hi2, hm9, hl9, by simp [World.setCell]; omega, HG4.out.2.1.set (p := ⟨L1, 7, none⟩) (by simp; omega) _, blk_set HG4.out.2.2.2 hwL' _, blk_put7 HG4.out.2.2.1 _, ?_, hE.out.trans ((loop_more (HST.out.trans rfl)).trans (by rw [hd8]))⟩
          exact GrowN.set HG4.out.1 (by simp) _

end Go.Proofs.YtkbplcfehllbjaaGreatDoor
