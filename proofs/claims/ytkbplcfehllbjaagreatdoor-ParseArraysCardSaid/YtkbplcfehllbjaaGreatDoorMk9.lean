/- Merged: Q26, Q27, Q28. -/
import Derived.Test.YtkbplcfehllbjaaGreatDoorMk8
/- pointerTo. -/
namespace Go.Proofs.YtkbplcfehllbjaaGreatDoor
open Go.RowKit
attribute [local go_sem ↓] Go.wp_at_zero Go.wp_at_succ
def tyPost (S : Nat → Prop) (n : Nat) (u : Ty) (w' : World) (v : Value) : Prop := ∃ ofu, v = tyV u ofu ∧ RepOf w' (Su S n) ofu u.of
set_option maxRecDepth 100000 in
set_option maxHeartbeats 4000000 in
theorem pointerTo_any (C : Ctx) (d : Nat) (R : Rec) (L : Lev C d R) (t : Ty) (ofv : Value) (B : Nat) (X : List Nat) (hbB : C.bp < B) (w : World) (i : Nat) (h : Pr C w i d) (hB : B ≤ w.heap.size) (hX : ∀ x ∈ X, x < w.heap.size) (hr : RepOf w (Sx B X) ofv t.of) :
    Calls Tryz.prog 80 #[C.p, tyV t ofv] w (Out C w d (pointerToP R t (C.toks.drop i)) (tyPost (Sx B X) w.heap.size)) := by
  obtain ⟨sa, sn, sc, rfl⟩ := hr.isSlice
  have HP := Lib.hid h.at
  have hbp := lt_of_heap h.blk
  have hlen := h.len
  have hp : C.p = .pointer (some ⟨C.bp, 0, none⟩) := rfl
  have HN : Hid (∀ w, Pr C w i d → Calls Tryz.prog 91 #[C.p, .func (.func 92) #[C.p] #[]] w (Out C w d (listP R.typename (C.toks.drop i)) (fun l => tysVal l w))) := Lib.hid (fun w h => listT_any C R.typename L.shr.ty.shrinks w i d L.ty h)
  have HLn := Lib.hid (fun a r (e : listP R.typename (C.toks.drop i) = .ok a r) => listP_len e)
  have HO := Lib.hid (hr.mono (S' := (Sx B ((w.heap.size + 1) :: X))) (fun g hs hl => sx_add hs (by omega)) (fun _ _ _ => rfl))
  have HX := Lib.hid hX
  unfold pointerToP
  generalize listP R.typename (C.toks.drop i) = R0 at *
  clear h L hr hX
  unfold tyV
  go_enter Tryz.func80, Tryz.ntmps80
  go_wp2_with fail
  have HA7 := Lib.hid ((HP.out.alloc (.cells #[.int .i64 t.kind, .int .i64 t.num, .string ⟨t.name.toArray⟩, .slice sa sn sc] 25 (0, 0))).alloc (.cells #[.int .i64 0, .int .i64 0, .string ⟨#[]⟩, .slice none 0 0] 25))
  have B7 := Lib.hid (blk_alloc (blk_new w (.cells #[.int .i64 t.kind, .int .i64 t.num, .string ⟨t.name.toArray⟩, .slice sa sn sc] 25 (0, 0))) (.cells #[.int .i64 0, .int .i64 0, .string ⟨#[]⟩, .slice none 0 0] 25))
  have N7 := Lib.hid (blk_new (w.alloc (.cells #[.int .i64 t.kind, .int .i64 t.num, .string ⟨t.name.toArray⟩, .slice sa sn sc] 25 (0, 0))) (.cells #[.int .i64 0, .int .i64 0, .string ⟨#[]⟩, .slice none 0 0] 25))
  rw [show (w.alloc (.cells #[.int .i64 t.kind, .int .i64 t.num, .string ⟨t.name.toArray⟩, .slice sa sn sc] 25 (0, 0))).heap.size = w.heap.size + 1 by simp] at N7
  have HO7 := Lib.hid (HO.out.kept (((Kept.refl (Sx B ((w.heap.size + 1) :: X)) w).alloc (.cells #[.int .i64 t.kind, .int .i64 t.num, .string ⟨t.name.toArray⟩, .slice sa sn sc] 25 (0, 0))).alloc (.cells #[.int .i64 0, .int .i64 0, .string ⟨#[]⟩, .slice none 0 0] 25)))
  have hW7 : w.heap.size + 1 < ((w.alloc (.cells #[.int .i64 t.kind, .int .i64 t.num, .string ⟨t.name.toArray⟩, .slice sa sn sc] 25 (0, 0))).alloc (.cells #[.int .i64 0, .int .i64 0, .string ⟨#[]⟩, .slice none 0 0] 25)).heap.size := by simp
  generalize (w.alloc (.cells #[.int .i64 t.kind, .int .i64 t.num, .string ⟨t.name.toArray⟩, .slice sa sn sc] 25 (0, 0))).alloc (.cells #[.int .i64 0, .int .i64 0, .string ⟨#[]⟩, .slice none 0 0] 25) = W7 at *
  have hX7 := Lib.hid (show ∀ x ∈ ((w.heap.size + 1) :: X), x < W7.heap.size from fun x hx => by rcases List.mem_cons.1 hx with e | e; omega; have := HX.out x e; omega)
  have hB7 : B ≤ W7.heap.size := by omega
  have hbw : ¬ w.heap.size + 1 = C.bp := by omega
  have hw7 : w.heap.size < W7.heap.size := by omega
  obtain ⟨q0, q1, q2, q3, _⟩ := cells4_of W7 w.heap.size _ _ _ _ _ B7.out
  clear HP HO
  go_region_law (first
    | (refine step_append_types (S' := (Sx B ((w.heap.size + 1) :: X))) rfl (.tmp 6) (.tmp 10) rfl rfl rfl HR.out.1.1 HR.out.1.2.1 HR.out.1.2.2.1 HR.out.1.2.2.2.1 HR.out.1.2.2.2.2.1 HR.out.1.2.2.2.2.2.1 hll ?_; intro a4 n4 c4 w4 hk4 hg4; have HG4 := Lib.hid (And.intro ((HF.out.1).app hg4 (fun k hk => Nat.le_trans HR.out.2 (HR.out.1.2.2.2.2.2.2.1 k hk))) (And.intro (blk_call HF.out.2.2 hg4 (HR.out.1.2.2.2.2.2.2.2 _ (by simp))) hk4)); have hz4 := hg4.size; try simp at hz4)
    | (go_simp; go_at_call 91; (first
      | (refine (HN.out _ HA7.out.drew.pr).mono ?_; rcases R0 with ⟨l, r⟩ | ⟨p, er⟩; rotate_left; (rintro e wc ⟨hg, i2, d2, rfl, hdd, hp1⟩; exact ⟨rfl, (HA7.out.drew.turn hg hp1).errOut rfl⟩); rintro e wc ⟨hg, v1, i2, rfl, hlv, hp1, hd1⟩; obtain ⟨ba, bn, bc, rfl⟩ := RepOf.isSlice hlv; have hz8 := hg.size; simp at hz8; have HR := Lib.hid (And.intro (appT_late (n := t) (HO7.out.kept ((Kept.refl (Sx B ((w.heap.size + 1) :: X)) W7).drew.call hg hbB)) (RepOf.into hlv (B := B) (X := (w.heap.size + 1) :: X) hB7 hX7.out) (by omega) (fun x hx => Nat.lt_of_lt_of_le (hX7.out x hx) hz8)) (show w.heap.size ≤ wc.heap.size by omega)); have HF := Lib.hid (And.intro ((HA7.out.drew.turn hg hp1).alloc (.cells #[.int .i64 t.kind, .int .i64 t.num, .string ⟨t.name.toArray⟩, .slice sa sn sc] 25 (0, 0))) (And.intro hd1 (blk_alloc (blk_call N7.out (undrew hg) (by simp; omega)) (.cells #[.int .i64 t.kind, .int .i64 t.num, .string ⟨t.name.toArray⟩, .slice sa sn sc] 25 (0, 0))))); have hll : [t].length + l.length ≤ 40004 := (by have := HLn.out l r rfl; simp at this ⊢; omega); obtain ⟨p0, p1, p2, p3, _⟩ := cells4_of wc w.heap.size _ _ _ _ _ (blk_call B7.out (undrew hg) (by simp; omega)); have hz9 : w.heap.size + 1 < wc.heap.size := (by omega); have hz9' : w.heap.size < wc.heap.size := (by omega); clear hg hp1 hlv)
      | (refine (HN.out _ (HA7.out.alloc (.cells #[.int .i64 t.kind, .int .i64 t.num, .string ⟨t.name.toArray⟩, .slice sa sn sc] 25 (0, 0))).drew.pr).mono ?_; rcases R0 with ⟨l, r⟩ | ⟨p, er⟩; rotate_left; (rintro e wc ⟨hg, i2, d2, rfl, hdd, hp1⟩; exact ⟨rfl, ((HA7.out.alloc (.cells #[.int .i64 t.kind, .int .i64 t.num, .string ⟨t.name.toArray⟩, .slice sa sn sc] 25 (0, 0))).drew.turn hg hp1).errOut rfl⟩); rintro e wc ⟨hg, v1, i2, rfl, hlv, hp1, hd1⟩; obtain ⟨ba, bn, bc, rfl⟩ := RepOf.isSlice hlv; have hz8 := hg.size; simp at hz8; have HR := Lib.hid (And.intro (appT_early (n := t) HO7.out hB7 hX7.out hg hbB (hlv.mono (fun g hs _ => by simpa using hs) (fun _ _ _ => rfl))) (show w.heap.size ≤ W7.heap.size by omega)); have HF := Lib.hid (And.intro ((HA7.out.alloc (.cells #[.int .i64 t.kind, .int .i64 t.num, .string ⟨t.name.toArray⟩, .slice sa sn sc] 25 (0, 0))).drew.turn hg hp1) (And.intro hd1 (blk_call (blk_alloc N7.out (.cells #[.int .i64 t.kind, .int .i64 t.num, .string ⟨t.name.toArray⟩, .slice sa sn sc] 25 (0, 0))) (undrew hg) (by simp; omega)))); have hll : [t].length + l.length ≤ 40004 := (by have := HLn.out l r rfl; simp at this ⊢; omega); have hz9 : w.heap.size + 1 < wc.heap.size := (by omega); clear hg hp1 hlv)))
    | (go_simp; go_at_call 72; refine (pointer_any (Ty.fn ([t] ++ l)) (.slice a4 n4 c4) (Sx B ((w.heap.size + 1) :: X)) w4 HG4.out.2.2).mono ?_; rintro e wd ⟨hgd, v5, rfl, hrd⟩; obtain ⟨fa, fn, fc, rfl⟩ := RepOf.isSlice hrd; have HG := Lib.hid (And.intro ((HG4.out.1).call hgd) (And.intro (blk_call HG4.out.2.1 hgd (by simp)) (hrd.join (by omega) (fun x hx => by have := hX7.out x hx; omega)))); obtain ⟨r0, r1, r2, r3, e0, e1, e2, e3⟩ := cells4_of wd (w.heap.size + 1) _ _ _ _ _ HG.out.2.1; have hz7' := hgd.size; have z9 : w.heap.size + 1 < wd.heap.size := (by omega); clear hgd hrd; unfold tyV))
  all_goals
    go_wp2_with fail
    have hd8 := HF.out.2.1
    have K := (Kept.refl (Sx B ((w.heap.size + 1) :: X)) wd).set4 (b := w.heap.size + 1) (by simp) (.int .i64 (Ty.ptr (Ty.fn ([t] ++ l))).kind) (.int .i64 (Ty.ptr (Ty.fn ([t] ++ l))).num) (.string ⟨(Ty.ptr (Ty.fn ([t] ++ l))).name.toArray⟩) (.slice fa fn fc)
    have HB9 := blk_put4 HG.out.2.1 (.int .i64 (Ty.ptr (Ty.fn ([t] ++ l))).kind) (.int .i64 (Ty.ptr (Ty.fn ([t] ++ l))).num) (.string ⟨(Ty.ptr (Ty.fn ([t] ++ l))).name.toArray⟩) (.slice fa fn fc)
    refine bodyPost_ret (v := tyV (Ty.ptr (Ty.fn ([t] ++ l))) (.slice fa fn fc)) (by simp [results, Tryz.results80, go_sem, r0, r1, r2, r3]; rfl) rfl ?_
    exact ((HG.out.1).set4 (by omega) (.int .i64 (Ty.ptr (Ty.fn ([t] ++ l))).kind) (.int .i64 (Ty.ptr (Ty.fn ([t] ++ l))).num) (.string ⟨(Ty.ptr (Ty.fn ([t] ++ l))).name.toArray⟩) (.slice fa fn fc)).okOut rfl ⟨_, rfl, (HG.out.2.2.kept K).mono (fun g hs _ => .inl (sx_cons hs)) (fun _ _ _ => rfl)⟩ hd8
end Go.Proofs.YtkbplcfehllbjaaGreatDoor
/- typename. -/
namespace Go.Proofs.YtkbplcfehllbjaaGreatDoor
open Go.RowKit
attribute [local go_sem ↓] Go.wp_at_zero Go.wp_at_succ
set_option maxRecDepth 100000 in
set_option maxHeartbeats 2000000 in
theorem typename_any (C : Ctx) (d : Nat) (R : Rec) (hd : d < 60) (L : Lev C (d + 1) R) : RunsT 92 C d (typenameF R) := by
  intro w i h
  have HP := Lib.hid h.at
  have hbp := lt_of_heap h.blk
  have HL := Lib.hid L
  have hp : C.p = .pointer (some ⟨C.bp, 0, none⟩) := rfl
  clear L h
  have hTN : typenameF R (C.toks.drop i) = (baseP (C.toks.drop i)).bind fun t r => if isP [40] (starsP r t).2 = true then (wantP [42] (starsP r t).2.tail).bind fun _ r1 => (wantP [41] r1).bind fun _ r2 => pointerToP R (starsP r t).1 r2 else .ok (starsP r t).1 (starsP r t).2 := rfl
  generalize typenameF R (C.toks.drop i) = TN at *
  go_enter_defers Tryz.func92, Tryz.ntmps92
  go_wp2_with fail
  have HA0 := Lib.hid (HP.out.alloc (.cells #[.int .i64 0, .int .i64 0, .string ⟨#[]⟩, .slice none 0 0] 25))
  have B0 := Lib.hid (blk_new w (.cells #[.int .i64 0, .int .i64 0, .string ⟨#[]⟩, .slice none 0 0] 25))
  refine (enter_yes C _ i d HA0.out.pr hd).mono ?_
  rintro e w1 ⟨rfl, hg, hp1⟩
  have HA1 := Lib.hid (HA0.out.turn hg hp1)
  have Z1 := Lib.hid (blk_call B0.out hg (by simp; omega))
  have hz1 := hg.size
  simp at hz1
  clear hg hp1 HP HA0 B0
  go_wp2_with fail
  have HC := Lib.hid (base_any C w1 i (d + 1) HA1.out.pr)
  generalize hR1 : baseP (C.toks.drop i) = R1 at HC
  refine HC.out.mono ?_
  rcases R1 with ⟨t, r⟩ | ⟨p, er⟩
  rotate_left
  · rintro e w2 ⟨hg, i1, d1, rfl, hdd, hp1⟩
    exact at_leaves_err (HA1.out.turn hg hp1) (by rw [hTN, hR1]; rfl) hdd
  rintro e w2 ⟨hg, v1, i1, rfl, ⟨ofv, rfl, hof⟩, hp1, rfl⟩
  obtain ⟨sa, sn, sc, rfl⟩ := hof.isSlice
  have HA2 := Lib.hid (HA1.out.turn hg hp1)
  have Z2 := Lib.hid (blk_call Z1.out hg (by simp; omega))
  have hz2 := hg.size
  have HO2 := Lib.hid (hof.mono (S' := Sx w.heap.size [w.heap.size, w2.heap.size]) (fun g hs hl => ⟨by omega, by simp; omega⟩) (fun _ _ _ => rfl))
  have HR1 := Lib.hid hR1
  have HTN := Lib.hid hTN
  clear hg hp1 hof hR1 HC HA1 Z1 hTN
  unfold tyV
  go_wp2_with fail
  have HA3 := Lib.hid (HA2.out.alloc (.cells #[.int .i64 t.kind, .int .i64 t.num, .string ⟨t.name.toArray⟩, .slice sa sn sc] 25))
  have Z3 := Lib.hid (blk_alloc Z2.out (.cells #[.int .i64 t.kind, .int .i64 t.num, .string ⟨t.name.toArray⟩, .slice sa sn sc] 25))
  have N3 := Lib.hid (blk_new w2 (.cells #[.int .i64 t.kind, .int .i64 t.num, .string ⟨t.name.toArray⟩, .slice sa sn sc] 25))
  have HO3 := Lib.hid (HO2.out.kept ((Kept.refl _ w2).alloc (.cells #[.int .i64 t.kind, .int .i64 t.num, .string ⟨t.name.toArray⟩, .slice sa sn sc] 25)))
  have hz3 : w2.heap.size < (w2.alloc (.cells #[.int .i64 t.kind, .int .i64 t.num, .string ⟨t.name.toArray⟩, .slice sa sn sc] 25)).heap.size := by simp
  generalize w2.alloc (.cells #[.int .i64 t.kind, .int .i64 t.num, .string ⟨t.name.toArray⟩, .slice sa sn sc] 25) = W3 at *
  have hwL : w.heap.size < w2.heap.size := by omega
  generalize w2.heap.size = LT at *
  have hwL' : ¬ w.heap.size = LT := by omega
  have hX3 : ∀ x ∈ [w.heap.size, LT], x < W3.heap.size := by simp; omega
  have HSt := Lib.hid (stars_any C w.heap.size [w.heap.size, LT] hbp t (.slice sa sn sc) W3 i1 (d + 1) HA3.out.pr (by omega) hX3 HO3.out)
  clear HA2 Z2 HO2 hz1
  generalize hS : starsP (C.toks.drop i1) t = s at HSt
  obtain ⟨u, rs⟩ := s
  refine HSt.out.mono ?_
  rintro e w4 ⟨hg, v, i4, rfl, hrv, hp4, hd4⟩
  obtain ⟨oa, on, oc, rfl⟩ := hrv.isSlice
  have hd4' : C.toks.drop i4 = rs := hd4
  subst hd4'
  have HA4 := Lib.hid (HA3.out.turn hg hp4)
  have Z4 := Lib.hid (blk_call Z3.out hg (by simp; omega))
  have N4 := Lib.hid (blk_call N3.out hg (by simp; omega))
  have HO4 := Lib.hid (hrv.join (by omega) hX3)
  have hz4 := hg.size
  have z4 : LT < w4.heap.size := by omega
  obtain ⟨_, _, _, _, e0, e1, e2, e3⟩ := cells4_of w4 LT _ _ _ _ _ N4.out
  have HE : Hid (TN = if isP [40] (C.toks.drop i4) = true then (wantP [42] (C.toks.drop i4).tail).bind fun _ r1 => (wantP [41] r1).bind fun _ r2 => pointerToP R u r2 else .ok u (C.toks.drop i4)) := Lib.hid (by rw [HTN.out, HR1.out, PR.bind_ok, hS])
  clear hg hp4 hrv hd4 hS HSt HA3 Z3 N3 HO3 HTN HR1
  unfold tyV
  go_wp2_with fail
  have HA5 := Lib.hid (HA4.out.set4 (b := LT) (by omega) (.int .i64 u.kind) (.int .i64 u.num) (.string ⟨u.name.toArray⟩) (.slice oa on oc))
  have Z5 := Lib.hid (blk_set4 Z4.out hwL' (.int .i64 u.kind) (.int .i64 u.num) (.string ⟨u.name.toArray⟩) (.slice oa on oc))
  have N5 := Lib.hid (blk_put4 N4.out (.int .i64 u.kind) (.int .i64 u.num) (.string ⟨u.name.toArray⟩) (.slice oa on oc))
  have HO5 := Lib.hid (HO4.out.kept ((Kept.refl _ w4).set4 (b := LT) (by simp) (.int .i64 u.kind) (.int .i64 u.num) (.string ⟨u.name.toArray⟩) (.slice oa on oc)))
  have z5 : LT < (((((w4.setCell ⟨LT, 0, none⟩ (.int .i64 u.kind)).setCell ⟨LT, 1, none⟩ (.int .i64 u.num)).setCell ⟨LT, 2, none⟩ (.string ⟨u.name.toArray⟩)).setCell ⟨LT, 3, none⟩ (.slice oa on oc))).heap.size := by simp [World.setCell]; omega
  generalize ((((w4.setCell ⟨LT, 0, none⟩ (.int .i64 u.kind)).setCell ⟨LT, 1, none⟩ (.int .i64 u.num)).setCell ⟨LT, 2, none⟩ (.string ⟨u.name.toArray⟩)).setCell ⟨LT, 3, none⟩ (.slice oa on oc)) = W5 at *
  clear HA4 Z4 N4 HO4 e0 e1 e2 e3 z4 hz4 hX3
  cases hs : isP [40] (C.toks.drop i4) with
  | false =>
    refine (skip_no C _ i4 (d + 1) HA5.out.pr [40] hs).mono ?_
    rintro e w6 ⟨rfl, hg⟩
    have HA6 := Lib.hid (HA5.out.call hg)
    have Z6 := Lib.hid (blk_call Z5.out hg (by simp))
    have HO6 := Lib.hid (HO5.out.kept ((Kept.refl _ _).call0 hg))
    obtain ⟨q0, q1, q2, q3, _⟩ := cells4_of w6 LT _ _ _ _ _ (blk_call N5.out hg (by simp))
    obtain ⟨_, _, _, _, e0, e1, e2, e3⟩ := cells4_of w6 w.heap.size _ _ _ _ _ Z6.out
    have hz6 := hg.size
    have z6 : LT < w6.heap.size := by omega
    have z7 : w.heap.size < w6.heap.size := by omega
    have HS := Lib.hid hs
    clear hg hs
    go_wp2_with fail
    refine at_leaves_ok (a := u) (HA6.out.set4 (Nat.le_refl _) (.int .i64 u.kind) (.int .i64 u.num) (.string ⟨u.name.toArray⟩) (.slice oa on oc)) (by rw [HE.out, if_neg (by rw [HS.out]; simp)]) rfl fun w' hg => ⟨tyV u (.slice oa on oc), ?_, ?_⟩
    · obtain ⟨r0, r1, r2, r3, _⟩ := cells4_of w' w.heap.size _ _ _ _ _ (blk_call (blk_put4 Z6.out (.int .i64 u.kind) (.int .i64 u.num) (.string ⟨u.name.toArray⟩) (.slice oa on oc)) hg (by simp; omega))
      simp [results, Tryz.results92, go_sem, r0, r1, r2, r3]; rfl
    · exact ⟨_, rfl, (HO6.out.kept (((Kept.refl _ _).set4 (b := w.heap.size) (by simp) (.int .i64 u.kind) (.int .i64 u.num) (.string ⟨u.name.toArray⟩) (.slice oa on oc)).call hg hbp)).out (Nat.le_refl _)⟩
  | true =>
    refine (skip_yes C _ i4 (d + 1) HA5.out.pr [40] (by simp) hs).mono ?_
    rintro e w6 ⟨rfl, hg, hp6⟩
    have HA6 := Lib.hid (HA5.out.turn hg hp6)
    have Z6 := Lib.hid (blk_call Z5.out hg (by simp; omega))
    have N6 := Lib.hid (blk_call N5.out hg (by simp; omega))
    have HO6 := Lib.hid (HO5.out.kept ((Kept.refl _ _).call hg hbp))
    have hz6 := hg.size
    have HE2 : Hid (TN = (wantP [42] (C.toks.drop (i4 + 1))).bind fun _ r1 => (wantP [41] r1).bind fun _ r2 => pointerToP R u r2) := Lib.hid (by rw [HE.out, if_pos hs, tl_at])
    clear hg hp6 hs HE HA5 Z5 N5 HO5
    go_wp2_with fail
    refine (want_any C _ (i4 + 1) (d + 1) HA6.out.pr [42] (by simp)).mono ?_
    generalize hW1 : wantP [42] (C.toks.drop (i4 + 1)) = R2
    rcases R2 with ⟨_, r⟩ | ⟨p, er⟩
    rotate_left
    · rintro e w7 ⟨hg, i7, d7, rfl, hdd, hp7⟩
      exact at_leaves_err (HA6.out.turn hg hp7) (by rw [HE2.out, hW1]; rfl) hdd
    rintro e w7 ⟨hg, v7, i7, rfl, hv, hp7, rfl⟩
    have hv' : v7 = .tuple #[] := hv
    subst hv'
    have HA7 := Lib.hid (HA6.out.turn hg hp7)
    have Z7 := Lib.hid (blk_call Z6.out hg (by simp; omega))
    have N7 := Lib.hid (blk_call N6.out hg (by simp; omega))
    have HO7 := Lib.hid (HO6.out.kept ((Kept.refl _ _).call hg hbp))
    have hz7 := hg.size
    have HW1 := Lib.hid hW1
    clear hg hp7 hv hW1 HA6 Z6 N6 HO6
    go_wp2_with fail
    refine (want_any C _ i7 (d + 1) HA7.out.pr [41] (by simp)).mono ?_
    generalize hW2 : wantP [41] (C.toks.drop i7) = R2
    rcases R2 with ⟨_, r⟩ | ⟨p, er⟩
    rotate_left
    · rintro e w8 ⟨hg, i8, d8, rfl, hdd, hp8⟩
      exact at_leaves_err (HA7.out.turn hg hp8) (by rw [HE2.out, HW1.out, PR.bind_ok, hW2]; rfl) hdd
    rintro e w8 ⟨hg, v8, i8, rfl, hv, hp8, rfl⟩
    have hv' : v8 = .tuple #[] := hv
    subst hv'
    have HA8 := Lib.hid (HA7.out.turn hg hp8)
    have Z8 := Lib.hid (blk_call Z7.out hg (by simp; omega))
    have N8 := Lib.hid (blk_call N7.out hg (by simp; omega))
    have HO8 := Lib.hid (HO7.out.kept ((Kept.refl _ _).call hg hbp))
    have hz8 := hg.size
    have z8 : LT < w8.heap.size := by omega
    have HE3 : Hid (TN = pointerToP R u (C.toks.drop i8)) := Lib.hid (by rw [HE2.out, HW1.out, PR.bind_ok, hW2, PR.bind_ok])
    obtain ⟨q0, q1, q2, q3, _⟩ := cells4_of w8 LT _ _ _ _ _ N8.out
    have hX8 : ∀ x ∈ [w.heap.size, LT], x < w8.heap.size := by simp; omega
    have HPT := Lib.hid (pointerTo_any C (d + 1) R HL.out u (.slice oa on oc) w.heap.size [w.heap.size, LT] hbp w8 i8 HA8.out.pr (by omega) hX8 HO8.out)
    clear hg hp8 hv hW2 HA7 Z7 N7 HO7 HE2 HW1
    go_wp2_with fail
    refine HPT.out.mono ?_
    generalize pointerToP R u (C.toks.drop i8) = R3 at *
    rcases R3 with ⟨v, r⟩ | ⟨p, er⟩
    rotate_left
    · rintro e w9 ⟨hg, i9, d9, rfl, hdd, hp9⟩
      exact at_leaves_err (HA8.out.turn hg hp9) HE3.out hdd
    rintro e w9 ⟨hg, v9, i9, rfl, ⟨ofu, rfl, hou⟩, hp9, hd9⟩
    obtain ⟨fa, fn, fc, rfl⟩ := hou.isSlice
    have HA9 := Lib.hid (HA8.out.turn hg hp9)
    have Z9 := Lib.hid (blk_call Z8.out hg (by simp; omega))
    have HO9 := Lib.hid (hou.join (by omega) hX8)
    obtain ⟨_, _, _, _, e0, e1, e2, e3⟩ := cells4_of w9 w.heap.size _ _ _ _ _ Z9.out
    have hz9 := hg.size
    have z9 : w.heap.size < w9.heap.size := by omega
    have HD := Lib.hid hd9
    clear hg hp9 hou hd9 HPT
    unfold tyV
    go_wp2_with fail
    refine at_leaves_ok (a := v) (HA9.out.set4 (Nat.le_refl _) (.int .i64 v.kind) (.int .i64 v.num) (.string ⟨v.name.toArray⟩) (.slice fa fn fc)) HE3.out HD.out fun w' hg => ⟨tyV v (.slice fa fn fc), ?_, ?_⟩
    · obtain ⟨r0, r1, r2, r3, _⟩ := cells4_of w' w.heap.size _ _ _ _ _ (blk_call (blk_put4 Z9.out (.int .i64 v.kind) (.int .i64 v.num) (.string ⟨v.name.toArray⟩) (.slice fa fn fc)) hg (by simp; omega))
      simp [results, Tryz.results92, go_sem, r0, r1, r2, r3]; rfl
    · exact ⟨_, rfl, (HO9.out.kept (((Kept.refl _ _).set4 (b := w.heap.size) (by simp) (.int .i64 v.kind) (.int .i64 v.num) (.string ⟨v.name.toArray⟩) (.slice fa fn fc)).call hg hbp)).out (Nat.le_refl _)⟩
end Go.Proofs.YtkbplcfehllbjaaGreatDoor
/- local. -/
namespace Go.Proofs.YtkbplcfehllbjaaGreatDoor
open Go.RowKit
attribute [local go_sem ↓] Go.wp_at_zero Go.wp_at_succ
set_option maxRecDepth 100000 in
set_option maxHeartbeats 2000000 in
theorem local_any (C : Ctx) (d : Nat) (R : Rec) (L : Lev C d R) (HD : RunsN 71 C d (declP R)) : RunsN 99 C d (localP R) := by
  intro w i h
  have HP := Lib.hid h.at
  have hbp := lt_of_heap h.blk
  have HX := Lib.hid L.ex
  have hp : C.p = .pointer (some ⟨C.bp, 0, none⟩) := rfl
  have HW := Lib.hid (fun w' (h' : Pr C w' i d) => HD w' i h')
  unfold localP
  generalize declP R (C.toks.drop i) = R0 at HW ⊢
  clear h L HD
  go_enter Tryz.func99, Tryz.ntmps99
  go_wp2_with fail
  have HA0 := Lib.hid (HP.out.alloc (.cells #[.int .i64 0, .string ⟨#[]⟩, .int .i64 0, .int .i64 0, .int .i64 0, .string ⟨#[]⟩, .slice none 0 0, .slice none 0 0] 28))
  have B0 := Lib.hid (blk_new w (.cells #[.int .i64 0, .string ⟨#[]⟩, .int .i64 0, .int .i64 0, .int .i64 0, .string ⟨#[]⟩, .slice none 0 0, .slice none 0 0] 28))
  refine (HW.out _ HA0.out.pr).mono ?_
  rcases R0 with ⟨n, r⟩ | ⟨p, er⟩
  rotate_left
  · rintro e w1 ⟨hg, i1, d1, rfl, hdd, hp1⟩
    exact ⟨rfl, (HA0.out.turn hg hp1).errOut rfl⟩
  rintro e w1 ⟨hg, v1, i1, rfl, ⟨ofv, kv, rfl, hof, hkv⟩, hp1, rfl⟩
  obtain ⟨sa, sn, sc, rfl⟩ := hof.isSlice
  obtain ⟨ka, kn, kc, rfl⟩ := hkv.isSlice
  have HA1 := Lib.hid (HA0.out.turn hg hp1)
  have B1 := Lib.hid (blk_call B0.out hg (by simp; omega))
  have hz1 := hg.size
  simp at hz1
  have HO1 := Lib.hid (hof.mono (S' := Sx w.heap.size [w.heap.size, w1.heap.size]) (fun g hs hl => ⟨by simp at hs; omega, by simp at hs; simp; omega⟩) (fun _ _ _ => rfl))
  have HK1 := Lib.hid (hkv.mono (S' := Sx w.heap.size [w.heap.size, w1.heap.size]) (fun g hs hl => ⟨by simp at hs; omega, by simp at hs; simp; omega⟩) (fun _ _ _ => rfl))
  clear hg hp1 hof hkv HA0 B0 HP HW
  unfold ndV
  go_wp2_with fail
  have HA2 := Lib.hid (HA1.out.alloc (.cells #[.int .i64 n.kind, .string ⟨n.text.toArray⟩, .int .i64 n.num, .int .i64 n.typ.kind, .int .i64 n.typ.num, .string ⟨n.typ.name.toArray⟩, .slice sa sn sc, .slice ka kn kc] 28))
  have B2 := Lib.hid (blk_alloc B1.out (.cells #[.int .i64 n.kind, .string ⟨n.text.toArray⟩, .int .i64 n.num, .int .i64 n.typ.kind, .int .i64 n.typ.num, .string ⟨n.typ.name.toArray⟩, .slice sa sn sc, .slice ka kn kc] 28))
  have N2 := Lib.hid (blk_new w1 (.cells #[.int .i64 n.kind, .string ⟨n.text.toArray⟩, .int .i64 n.num, .int .i64 n.typ.kind, .int .i64 n.typ.num, .string ⟨n.typ.name.toArray⟩, .slice sa sn sc, .slice ka kn kc] 28))
  have HO2 := Lib.hid (HO1.out.kept ((Kept.refl _ _).alloc (.cells #[.int .i64 n.kind, .string ⟨n.text.toArray⟩, .int .i64 n.num, .int .i64 n.typ.kind, .int .i64 n.typ.num, .string ⟨n.typ.name.toArray⟩, .slice sa sn sc, .slice ka kn kc] 28)))
  have HK2 := Lib.hid (HK1.out.kept ((Kept.refl _ _).alloc (.cells #[.int .i64 n.kind, .string ⟨n.text.toArray⟩, .int .i64 n.num, .int .i64 n.typ.kind, .int .i64 n.typ.num, .string ⟨n.typ.name.toArray⟩, .slice sa sn sc, .slice ka kn kc] 28)))
  have hL1 : w1.heap.size < (w1.alloc (.cells #[.int .i64 n.kind, .string ⟨n.text.toArray⟩, .int .i64 n.num, .int .i64 n.typ.kind, .int .i64 n.typ.num, .string ⟨n.typ.name.toArray⟩, .slice sa sn sc, .slice ka kn kc] 28)).heap.size := by simp
  generalize w1.alloc (.cells #[.int .i64 n.kind, .string ⟨n.text.toArray⟩, .int .i64 n.num, .int .i64 n.typ.kind, .int .i64 n.typ.num, .string ⟨n.typ.name.toArray⟩, .slice sa sn sc, .slice ka kn kc] 28) = W2 at *
  have hwL : w.heap.size < w1.heap.size := by omega
  generalize w1.heap.size = L1 at *
  have hwL' : ¬ w.heap.size = L1 := by omega
  have hLw' : L1 ≠ w.heap.size := by omega
  clear HA1 B1 HO1 HK1
  cases hs : isP [61] (C.toks.drop i1) with
  | true =>
    refine (skip_yes C _ i1 d HA2.out.pr [61] (by simp) hs).mono ?_
    rintro e w3 ⟨rfl, hg, hp3⟩
    have HA3 := Lib.hid (HA2.out.turn hg hp3)
    have B3 := Lib.hid (blk_call B2.out hg (by simp; omega))
    have N3 := Lib.hid (blk_call N2.out hg (by simp; omega))
    have HO3 := Lib.hid (HO2.out.kept ((Kept.refl _ _).call hg hbp))
    have HS := Lib.hid hs
    have hz3 := hg.size
    clear hg hp3 hs HA2 B2 N2 HO2 HK2
    go_wp2_with fail
    have HC := Lib.hid (HX.out w3 (i1 + 1) HA3.out.pr)
    generalize hR1 : R.expr (C.toks.drop (i1 + 1)) = R1 at HC
    refine HC.out.mono ?_
    rcases R1 with ⟨m, r⟩ | ⟨p, er⟩
    rotate_left
    · rintro e w4 ⟨hg, i4, d4, rfl, hdd, hp4⟩
      exact ⟨rfl, (HA3.out.turn hg hp4).errOut (by rw [PR.bind_ok, if_pos HS.out, tl_at, hR1]; rfl)⟩
    rintro e w4 ⟨hg, v4, i4, rfl, ⟨ofm, km, rfl, hof, hkv⟩, hp4, rfl⟩
    obtain ⟨oa, on, oc, rfl⟩ := hof.isSlice
    obtain ⟨ma, mn, mc, rfl⟩ := hkv.isSlice
    have HA4 := Lib.hid (HA3.out.turn hg hp4)
    have B4 := Lib.hid (blk_call B3.out hg (by simp; omega))
    have N4 := Lib.hid (blk_call N3.out hg (by simp; omega))
    have HO4 := Lib.hid (HO3.out.kept ((Kept.refl _ _).call hg hbp))
    have HOm := Lib.hid (hof.into (B := w.heap.size) (X := [w.heap.size, L1]) (by omega) (by simp; omega))
    have HKm := Lib.hid (hkv.into (B := w.heap.size) (X := [w.heap.size, L1]) (by omega) (by simp; omega))
    have hz4 := hg.size
    have z3 : w.heap.size < w4.heap.size := by omega
    have z4 : L1 < w4.heap.size := by omega
    obtain ⟨_, e0, e1, e2, e3, e4, e5, e6, e7⟩ := cells8_of w4 L1 _ _ _ _ _ _ _ _ _ N4.out
    have HR1 := Lib.hid hR1
    clear hg hp4 hof hkv HC HA3 B3 N3 hR1 HO3
    unfold ndV
    go_wp2_with fail
    have HA5 := Lib.hid ((HA4.out.set (p := ⟨L1, 7, none⟩) (by simp; omega) (.slice (some ⟨w4.heap.size, 0, none⟩) 1 1)).alloc (.cells #[.int .i64 m.kind, .string ⟨m.text.toArray⟩, .int .i64 m.num, .int .i64 m.typ.kind, .int .i64 m.typ.num, .string ⟨m.typ.name.toArray⟩, .slice oa on oc, .slice ma mn mc] 28))
    have B5 := Lib.hid (blk_alloc (blk_set B4.out (p := ⟨L1, 7, none⟩) hwL' (.slice (some ⟨w4.heap.size, 0, none⟩) 1 1)) (.cells #[.int .i64 m.kind, .string ⟨m.text.toArray⟩, .int .i64 m.num, .int .i64 m.typ.kind, .int .i64 m.typ.num, .string ⟨m.typ.name.toArray⟩, .slice oa on oc, .slice ma mn mc] 28))
    have N5 := Lib.hid (blk_alloc (blk_put7 N4.out (.slice (some ⟨w4.heap.size, 0, none⟩) 1 1)) (.cells #[.int .i64 m.kind, .string ⟨m.text.toArray⟩, .int .i64 m.num, .int .i64 m.typ.kind, .int .i64 m.typ.num, .string ⟨m.typ.name.toArray⟩, .slice oa on oc, .slice ma mn mc] 28))
    have K5 := Lib.hid (((Kept.refl (Sx w.heap.size [w.heap.size, L1]) w4).set (p := ⟨L1, 7, none⟩) (by simp) (.slice (some ⟨w4.heap.size, 0, none⟩) 1 1)).alloc (.cells #[.int .i64 m.kind, .string ⟨m.text.toArray⟩, .int .i64 m.num, .int .i64 m.typ.kind, .int .i64 m.typ.num, .string ⟨m.typ.name.toArray⟩, .slice oa on oc, .slice ma mn mc] 28))
    have R5 := Lib.hid (RepK.one (HOm.out.kept K5.out) (HKm.out.kept K5.out) (blk_new' w4 (.cells #[.int .i64 m.kind, .string ⟨m.text.toArray⟩, .int .i64 m.num, .int .i64 m.typ.kind, .int .i64 m.typ.num, .string ⟨m.typ.name.toArray⟩, .slice oa on oc, .slice ma mn mc] 28) ⟨L1, 7, none⟩ (.slice (some ⟨w4.heap.size, 0, none⟩) 1 1)) ⟨by omega, by simp; omega⟩)
    have HO5 := Lib.hid (HO4.out.kept K5.out)
    have hz5 : w4.heap.size < ((w4.setCell ⟨L1, 7, none⟩ (.slice (some ⟨w4.heap.size, 0, none⟩) 1 1)).alloc (.cells #[.int .i64 m.kind, .string ⟨m.text.toArray⟩, .int .i64 m.num, .int .i64 m.typ.kind, .int .i64 m.typ.num, .string ⟨m.typ.name.toArray⟩, .slice oa on oc, .slice ma mn mc] 28)).heap.size := by simp [World.setCell]
    generalize (w4.setCell ⟨L1, 7, none⟩ (.slice (some ⟨w4.heap.size, 0, none⟩) 1 1)).alloc (.cells #[.int .i64 m.kind, .string ⟨m.text.toArray⟩, .int .i64 m.num, .int .i64 m.typ.kind, .int .i64 m.typ.num, .string ⟨m.typ.name.toArray⟩, .slice oa on oc, .slice ma mn mc] 28) = W5 at *
    clear HA4 B4 N4 HOm HKm K5 HO4 e0 e1 e2 e3 e4 e5 e6 e7
    refine (want_any C _ i4 d HA5.out.pr [59] (by simp)).mono ?_
    generalize hR4 : wantP [59] (C.toks.drop i4) = R4'
    rcases R4' with ⟨u, r⟩ | ⟨p, er⟩
    rotate_left
    · rintro e w6 ⟨hg, i6, d6, rfl, hdd, hp6⟩
      exact ⟨rfl, (HA5.out.turn hg hp6).errOut (by rw [PR.bind_ok, if_pos HS.out, tl_at, HR1.out, PR.bind_ok, hR4]; rfl)⟩
    rintro e w6 ⟨hg, v6, i6, rfl, hv, hp6, hd6⟩
    have hv' : v6 = .tuple #[] := hv
    subst hv'
    have HA6 := Lib.hid (HA5.out.turn hg hp6)
    have K6 := Lib.hid ((Kept.refl (Sx w.heap.size [w.heap.size, L1]) W5).call hg hbp)
    obtain ⟨⟨r0, r1, r2, r3, r4, r5, r6, r7⟩, e0, e1, e2, e3, e4, e5, e6, e7⟩ := cells8_of w6 w.heap.size _ _ _ _ _ _ _ _ _ (blk_call B5.out hg (by simp; omega))
    obtain ⟨⟨q0, q1, q2, q3, q4, q5, q6, q7⟩, _⟩ := cells8_of w6 L1 _ _ _ _ _ _ _ _ _ (blk_call N5.out hg (by simp; omega))
    have hz6 := hg.size
    have z5 : w.heap.size < w6.heap.size := by omega
    have z6 : L1 < w6.heap.size := by omega
    have HR4 := Lib.hid hR4
    have HDr := Lib.hid hd6
    have HSK := Lib.hid (show setKids n [m] = .mk n.kind n.text n.num n.typ [m] by cases n; rfl)
    clear hg hp6 hv hR4 hd6 z3 z4
    go_wp2_with fail
    refine bodyPost_ret (v := ndV (.mk n.kind n.text n.num n.typ [m]) (.slice sa sn sc) (.slice (some ⟨w4.heap.size, 0, none⟩) 1 1)) (by simp [results, Tryz.results99, go_sem, r0, r1, r2, r3, r4, r5, r6, r7]; rfl) rfl ?_
    have K7 := K6.out.set8 (b := w.heap.size) (by simp) (.int .i64 n.kind) (.string ⟨n.text.toArray⟩) (.int .i64 n.num) (.int .i64 n.typ.kind) (.int .i64 n.typ.num) (.string ⟨n.typ.name.toArray⟩) (.slice sa sn sc) (.slice (some ⟨w4.heap.size, 0, none⟩) 1 1)
    exact (HA6.out.set8 (Nat.le_refl _) _ _ _ _ _ _ _ _).okOut (by rw [PR.bind_ok, if_pos HS.out, tl_at, HR1.out, PR.bind_ok, HR4.out, PR.bind_ok, HSK.out]) ⟨_, _, rfl, (HO5.out.kept K7).out (Nat.le_refl _), (R5.out.kept K7).out (Nat.le_refl _)⟩ HDr.out
  | false =>
    refine (skip_no C _ i1 d HA2.out.pr [61] hs).mono ?_
    rintro e w3 ⟨rfl, hg⟩
    have HA3 := Lib.hid (HA2.out.call hg)
    have B3 := Lib.hid (blk_call B2.out hg (by simp))
    have N3 := Lib.hid (blk_call N2.out hg (by simp))
    have HO3 := Lib.hid (HO2.out.kept ((Kept.refl _ _).call0 hg))
    have HK3 := Lib.hid (HK2.out.kept ((Kept.refl _ _).call0 hg))
    have HS := Lib.hid hs
    have hz3 := hg.size
    clear hg hs HA2 B2 N2 HO2 HK2
    go_wp2_with fail
    refine (want_any C _ i1 d HA3.out.pr [59] (by simp)).mono ?_
    generalize hR4 : wantP [59] (C.toks.drop i1) = R4'
    rcases R4' with ⟨u, r⟩ | ⟨p, er⟩
    rotate_left
    · rintro e w6 ⟨hg, i6, d6, rfl, hdd, hp6⟩
      exact ⟨rfl, (HA3.out.turn hg hp6).errOut (by rw [PR.bind_ok, if_neg (by rw [HS.out]; simp), hR4]; rfl)⟩
    rintro e w6 ⟨hg, v6, i6, rfl, hv, hp6, hd6⟩
    have hv' : v6 = .tuple #[] := hv
    subst hv'
    have HA6 := Lib.hid (HA3.out.turn hg hp6)
    have K6 := Lib.hid ((Kept.refl (Sx w.heap.size [w.heap.size, L1]) w3).call hg hbp)
    obtain ⟨⟨r0, r1, r2, r3, r4, r5, r6, r7⟩, e0, e1, e2, e3, e4, e5, e6, e7⟩ := cells8_of w6 w.heap.size _ _ _ _ _ _ _ _ _ (blk_call B3.out hg (by simp; omega))
    obtain ⟨⟨q0, q1, q2, q3, q4, q5, q6, q7⟩, _⟩ := cells8_of w6 L1 _ _ _ _ _ _ _ _ _ (blk_call N3.out hg (by simp; omega))
    have hz6 := hg.size
    have z5 : w.heap.size < w6.heap.size := by omega
    have z6 : L1 < w6.heap.size := by omega
    have HR4 := Lib.hid hR4
    have HDr := Lib.hid hd6
    clear hg hp6 hv hR4 hd6
    go_wp2_with fail
    refine bodyPost_ret (v := ndV n (.slice sa sn sc) (.slice ka kn kc)) (by simp [results, Tryz.results99, go_sem, r0, r1, r2, r3, r4, r5, r6, r7]; rfl) rfl ?_
    have K7 := K6.out.set8 (b := w.heap.size) (by simp) (.int .i64 n.kind) (.string ⟨n.text.toArray⟩) (.int .i64 n.num) (.int .i64 n.typ.kind) (.int .i64 n.typ.num) (.string ⟨n.typ.name.toArray⟩) (.slice sa sn sc) (.slice ka kn kc)
    exact (HA6.out.set8 (Nat.le_refl _) _ _ _ _ _ _ _ _).okOut (by rw [PR.bind_ok, if_neg (by rw [HS.out]; simp), HR4.out, PR.bind_ok]) ⟨_, _, rfl, (HO3.out.kept K7).out (Nat.le_refl _), (HK3.out.kept K7).out (Nat.le_refl _)⟩ HDr.out
end Go.Proofs.YtkbplcfehllbjaaGreatDoor
