/- Merged: Q21. -/
import Derived.Test.YtkbplcfehllbjaaGreatDoorMk6
/- unary. -/
namespace Go.Proofs.YtkbplcfehllbjaaGreatDoor
open Go.RowKit
attribute [local go_sem ↓] Go.wp_at_zero Go.wp_at_succ
set_option maxRecDepth 100000 in
set_option maxHeartbeats 4000000 in
theorem unary_any (C : Ctx) (d : Nat) (R : Rec) (hd : d < 60) (L : Lev C (d + 1) R) : RunsN 108 C d (unaryF R) := by
  intro w i h
  have HP := Lib.hid h.at
  have hbp := lt_of_heap h.blk
  have hlen := h.len
  have HL := Lib.hid L
  have hi0 := h.lt
  have hp : C.p = .pointer (some ⟨C.bp, 0, none⟩) := rfl
  have HT := Lib.hid (fun w' (h' : Pr C w' i (d + 1)) => token_any C w' i (d + 1) h' _ (hd_at _ _ h.lt))
  have hfin := h.fin i _ (hd_at _ _ h.lt)
  clear L h
  have hun : unaryF R (C.toks.drop i) = if isUn (hdT (C.toks.drop i)).text = true then (R.unary (C.toks.drop i).tail).bind fun n r => .ok (.mk 3 (hdT (C.toks.drop i)).text 0 Ty.none [n]) r
    else if (hdT (C.toks.drop i)).text == [115, 105, 122, 101, 111, 102] then (enclosedP R (C.toks.drop i).tail).bind fun t r => .ok (.mk 11 [] 0 t []) r
    else if ((hdT (C.toks.drop i)).text == [40]) = true ∧ (hdT (C.toks.drop i).tail).kind = 2 ∧ ((hdT (C.toks.drop i).tail).text == [115, 105, 122, 101, 111, 102]) = false then
      (enclosedP R (C.toks.drop i)).bind fun t r1 => (R.unary r1).bind fun n r2 => .ok (.mk 10 [] 0 t [n]) r2
    else postP R (C.toks.drop i) := rfl
  rw [tl_at] at hun
  generalize hdT (C.toks.drop i) = t at *
  generalize unaryF R (C.toks.drop i) = UN at *
  go_enter_defers Tryz.func108, Tryz.ntmps108
  go_wp2_with fail
  have HA0 := Lib.hid (HP.out.alloc (.cells #[.int .i64 0, .string ⟨#[]⟩, .int .i64 0, .int .i64 0, .int .i64 0, .string ⟨#[]⟩, .slice none 0 0, .slice none 0 0] 28))
  have B0 := Lib.hid (blk_new w (.cells #[.int .i64 0, .string ⟨#[]⟩, .int .i64 0, .int .i64 0, .int .i64 0, .string ⟨#[]⟩, .slice none 0 0, .slice none 0 0] 28))
  refine (enter_yes C _ i d HA0.out.pr hd).mono ?_
  rintro e w1 ⟨rfl, hg, hp1⟩
  have HA1 := Lib.hid (HA0.out.turn hg hp1)
  have B1 := Lib.hid (blk_call B0.out hg (by simp; omega))
  have hz1 := hg.size
  simp at hz1
  clear hg hp1
  go_wp2_with fail
  refine (HT.out _ HA1.out.pr).mono ?_
  rintro e w2 ⟨rfl, hg⟩
  have HA2 := Lib.hid (HA1.out.call hg)
  have Z2 := Lib.hid (blk_call B1.out hg (by simp))
  have hz2 := hg.size
  have zw : w.heap.size < w2.heap.size := by omega
  have zb : C.bp < w2.heap.size := by omega
  have hwb : w.heap.size ≠ C.bp := by omega
  have hwb' : ¬ w.heap.size = C.bp := by omega
  have hbw' : ¬ C.bp = w.heap.size := by omega
  clear hg HP HT HA0 HA1 B0 B1
  unfold tkV
  cases g0 : t.text == [45] with
  | true =>
    have hl : i + 1 < C.toks.length := hfin (.inl (by intro e; rw [e] at g0; cases g0))
    rw [if_pos (by simp [isUn, g0])] at hun
    have HU := Lib.hid hun
    clear hun hfin
    have HN : Hid (∀ w, Pr C w (i + 1) (d + 1) → Calls Tryz.prog 108 #[C.p] w (Out C w (d + 1) (R.unary (C.toks.drop (i + 1))) (fun n => ndVal n w))) := Lib.hid (fun w h => HL.out.un w (i + 1) h)
    obtain ⟨c0, c1, c2, c3, f0, f1, f2, f3⟩ := cells4_of w2 C.bp _ _ _ _ _ HA2.out.pr.blk
    go_wp2_with fail
    have HA7 := Lib.hid ((HA2.out.next hl (v := (i : Int) + 1) (by omega)).alloc (.cells #[.int .i64 t.kind, .int .i64 t.pos, .string ⟨t.text.toArray⟩, .int .i64 t.val] 49))
    have T7 := Lib.hid (blk_new' w2 (.cells #[.int .i64 t.kind, .int .i64 t.pos, .string ⟨t.text.toArray⟩, .int .i64 t.val] 49) ⟨C.bp, 1, none⟩ (.int .i64 ((i : Int) + 1)))
    have Z7 := Lib.hid (blk_alloc (blk_set Z2.out (p := ⟨C.bp, 1, none⟩) hwb (.int .i64 ((i : Int) + 1))) (.cells #[.int .i64 t.kind, .int .i64 t.pos, .string ⟨t.text.toArray⟩, .int .i64 t.val] 49))
    have hz7 : w2.heap.size < ((w2.setCell ⟨C.bp, 1, none⟩ (.int .i64 ((i : Int) + 1))).alloc (.cells #[.int .i64 t.kind, .int .i64 t.pos, .string ⟨t.text.toArray⟩, .int .i64 t.val] 49)).heap.size := by simp [World.setCell]
    generalize (w2.setCell ⟨C.bp, 1, none⟩ (.int .i64 ((i : Int) + 1))).alloc (.cells #[.int .i64 t.kind, .int .i64 t.pos, .string ⟨t.text.toArray⟩, .int .i64 t.val] 49) = W7 at *
    generalize w2.heap.size = LT at *
    obtain ⟨q0, q1, q2, q3, _⟩ := cells4_of W7 LT _ _ _ _ _ T7.out
    have zw7 : w.heap.size < W7.heap.size := by omega
    clear c0 c1 c2 c3 f0 f1 f2 f3 HA2 Z2 HL
    generalize R.unary (C.toks.drop (i + 1)) = R0 at *
    refine wp_panicAs (D := [{ target := .fn (.func 77) #[], args := #[C.p] }]) (fn := Tryz.f108) (R := Out C w d _ _) (fun ch a w h => h) ?_
    go_region_with (go_at_call 108; refine (HN.out _ HA7.out.drew.pr).mono ?_; rcases R0 with ⟨m2, r⟩ | ⟨p, er⟩; rotate_left; (rintro e wc ⟨hg, i2, d2, rfl, hdd, hp1⟩; exact ⟨rfl, fun tm => at_leaves_err (HA7.out.drew.turn hg hp1) (by rw [HU.out]; rfl) hdd⟩); rintro e wc ⟨hg, v1, i2, rfl, ⟨ofm, km, rfl, hof, hkm⟩, hp1, hd1⟩; obtain ⟨oa, on, oc, rfl⟩ := hof.isSlice; obtain ⟨ma, mn, mc, rfl⟩ := hkm.isSlice; have hz8 := hg.size; simp at hz8; have z8 : w.heap.size < wc.heap.size := (by omega); have HF := Lib.hid (And.intro (HA7.out.drew.turn hg hp1) (And.intro hd1 (And.intro (blk_call Z7.out (undrew hg) (by simp; omega)) (And.intro hof hkm)))); obtain ⟨p0, p1, p2, p3, _⟩ := cells4_of wc LT _ _ _ _ _ (blk_call T7.out (undrew hg) (by simp; omega)); obtain ⟨_, e0, e1, e2, e3, e4, e5, e6, e7⟩ := cells8_of wc w.heap.size _ _ _ _ _ _ _ _ _ HF.out.2.2.1; have hz9 : LT < wc.heap.size := (by omega); clear hg hp1 hof hkm; unfold ndV)
    all_goals
      rw [panicAs_normal]
      go_wp2_with fail
      have K := (((Kept.refl (Sx w.heap.size [w.heap.size]) wc).set8 (b := w.heap.size) (by simp) (.int .i64 3) (.string ⟨t.text.toArray⟩) (.int .i64 0) (.int .i64 0) (.int .i64 0) (.string ⟨#[]⟩) (.slice none 0 0) (.slice (some ⟨wc.heap.size, 0, none⟩) 1 1)).alloc (.cells #[.int .i64 m2.kind, .string ⟨m2.text.toArray⟩, .int .i64 m2.num, .int .i64 m2.typ.kind, .int .i64 m2.typ.num, .string ⟨m2.typ.name.toArray⟩, .slice oa on oc, .slice ma mn mc] 28))
      refine at_leaves_ok (a := .mk 3 t.text 0 Ty.none [m2]) ((HF.out.1.set8 (Nat.le_refl _) (.int .i64 3) (.string ⟨t.text.toArray⟩) (.int .i64 0) (.int .i64 0) (.int .i64 0) (.string ⟨#[]⟩) (.slice none 0 0) (.slice (some ⟨wc.heap.size, 0, none⟩) 1 1)).alloc (.cells #[.int .i64 m2.kind, .string ⟨m2.text.toArray⟩, .int .i64 m2.num, .int .i64 m2.typ.kind, .int .i64 m2.typ.num, .string ⟨m2.typ.name.toArray⟩, .slice oa on oc, .slice ma mn mc] 28)) (by rw [HU.out]; rfl) HF.out.2.1 fun w' hg => ⟨ndV (.mk 3 t.text 0 Ty.none [m2]) (.slice none 0 0) (.slice (some ⟨wc.heap.size, 0, none⟩) 1 1), ?_, ?_⟩
      · obtain ⟨⟨q0, q1, q2, q3, q4, q5, q6, q7⟩, _⟩ := cells8_of w' w.heap.size _ _ _ _ _ _ _ _ _ (blk_call (blk_alloc (blk_put8 HF.out.2.2.1 (.int .i64 3) (.string ⟨t.text.toArray⟩) (.int .i64 0) (.int .i64 0) (.int .i64 0) (.string ⟨#[]⟩) (.slice none 0 0) (.slice (some ⟨wc.heap.size, 0, none⟩) 1 1)) (.cells #[.int .i64 m2.kind, .string ⟨m2.text.toArray⟩, .int .i64 m2.num, .int .i64 m2.typ.kind, .int .i64 m2.typ.num, .string ⟨m2.typ.name.toArray⟩, .slice oa on oc, .slice ma mn mc] 28)) hg (by simp; omega))
        simp [results, Tryz.results108, go_sem, q0, q1, q2, q3, q4, q5, q6, q7]; rfl
      · have K2 := K.call hg hbp
        have hnew := blk_call (blk_new ((((((((wc.setCell ⟨w.heap.size, 0, none⟩ (.int .i64 3)).setCell ⟨w.heap.size, 1, none⟩ (.string ⟨t.text.toArray⟩)).setCell ⟨w.heap.size, 2, none⟩ (.int .i64 0)).setCell ⟨w.heap.size, 3, none⟩ (.int .i64 0)).setCell ⟨w.heap.size, 4, none⟩ (.int .i64 0)).setCell ⟨w.heap.size, 5, none⟩ (.string ⟨#[]⟩)).setCell ⟨w.heap.size, 6, none⟩ (.slice none 0 0)).setCell ⟨w.heap.size, 7, none⟩ (.slice (some ⟨wc.heap.size, 0, none⟩) 1 1)) (.cells #[.int .i64 m2.kind, .string ⟨m2.text.toArray⟩, .int .i64 m2.num, .int .i64 m2.typ.kind, .int .i64 m2.typ.num, .string ⟨m2.typ.name.toArray⟩, .slice oa on oc, .slice ma mn mc] 28)) hg (by simp [World.setCell]; omega)
        refine ⟨_, _, rfl, RepOf.nil _ _, (RepK.one (S := (Sx w.heap.size [w.heap.size])) ((HF.out.2.2.2.1.into (X := [w.heap.size]) (B := w.heap.size) (by simp; omega) (by simp; omega)).kept K2) ((HF.out.2.2.2.2.into (X := [w.heap.size]) (B := w.heap.size) (by simp; omega) (by simp; omega)).kept K2) (by simpa [World.setCell] using hnew) ⟨by omega, by simp; omega⟩).out (Nat.le_refl _)⟩
  | false =>
  cases g1 : t.text == [33] with
  | true =>
    have hl : i + 1 < C.toks.length := hfin (.inl (by intro e; rw [e] at g1; cases g1))
    rw [if_pos (by simp [isUn, g1])] at hun
    have HU := Lib.hid hun
    clear hun hfin
    have HN : Hid (∀ w, Pr C w (i + 1) (d + 1) → Calls Tryz.prog 108 #[C.p] w (Out C w (d + 1) (R.unary (C.toks.drop (i + 1))) (fun n => ndVal n w))) := Lib.hid (fun w h => HL.out.un w (i + 1) h)
    obtain ⟨c0, c1, c2, c3, f0, f1, f2, f3⟩ := cells4_of w2 C.bp _ _ _ _ _ HA2.out.pr.blk
    go_wp2_with fail
    have HA7 := Lib.hid ((HA2.out.next hl (v := (i : Int) + 1) (by omega)).alloc (.cells #[.int .i64 t.kind, .int .i64 t.pos, .string ⟨t.text.toArray⟩, .int .i64 t.val] 49))
    have T7 := Lib.hid (blk_new' w2 (.cells #[.int .i64 t.kind, .int .i64 t.pos, .string ⟨t.text.toArray⟩, .int .i64 t.val] 49) ⟨C.bp, 1, none⟩ (.int .i64 ((i : Int) + 1)))
    have Z7 := Lib.hid (blk_alloc (blk_set Z2.out (p := ⟨C.bp, 1, none⟩) hwb (.int .i64 ((i : Int) + 1))) (.cells #[.int .i64 t.kind, .int .i64 t.pos, .string ⟨t.text.toArray⟩, .int .i64 t.val] 49))
    have hz7 : w2.heap.size < ((w2.setCell ⟨C.bp, 1, none⟩ (.int .i64 ((i : Int) + 1))).alloc (.cells #[.int .i64 t.kind, .int .i64 t.pos, .string ⟨t.text.toArray⟩, .int .i64 t.val] 49)).heap.size := by simp [World.setCell]
    generalize (w2.setCell ⟨C.bp, 1, none⟩ (.int .i64 ((i : Int) + 1))).alloc (.cells #[.int .i64 t.kind, .int .i64 t.pos, .string ⟨t.text.toArray⟩, .int .i64 t.val] 49) = W7 at *
    generalize w2.heap.size = LT at *
    obtain ⟨q0, q1, q2, q3, _⟩ := cells4_of W7 LT _ _ _ _ _ T7.out
    have zw7 : w.heap.size < W7.heap.size := by omega
    clear c0 c1 c2 c3 f0 f1 f2 f3 HA2 Z2 HL
    generalize R.unary (C.toks.drop (i + 1)) = R0 at *
    refine wp_panicAs (D := [{ target := .fn (.func 77) #[], args := #[C.p] }]) (fn := Tryz.f108) (R := Out C w d _ _) (fun ch a w h => h) ?_
    go_region_with (go_at_call 108; refine (HN.out _ HA7.out.drew.pr).mono ?_; rcases R0 with ⟨m2, r⟩ | ⟨p, er⟩; rotate_left; (rintro e wc ⟨hg, i2, d2, rfl, hdd, hp1⟩; exact ⟨rfl, fun tm => at_leaves_err (HA7.out.drew.turn hg hp1) (by rw [HU.out]; rfl) hdd⟩); rintro e wc ⟨hg, v1, i2, rfl, ⟨ofm, km, rfl, hof, hkm⟩, hp1, hd1⟩; obtain ⟨oa, on, oc, rfl⟩ := hof.isSlice; obtain ⟨ma, mn, mc, rfl⟩ := hkm.isSlice; have hz8 := hg.size; simp at hz8; have z8 : w.heap.size < wc.heap.size := (by omega); have HF := Lib.hid (And.intro (HA7.out.drew.turn hg hp1) (And.intro hd1 (And.intro (blk_call Z7.out (undrew hg) (by simp; omega)) (And.intro hof hkm)))); obtain ⟨p0, p1, p2, p3, _⟩ := cells4_of wc LT _ _ _ _ _ (blk_call T7.out (undrew hg) (by simp; omega)); obtain ⟨_, e0, e1, e2, e3, e4, e5, e6, e7⟩ := cells8_of wc w.heap.size _ _ _ _ _ _ _ _ _ HF.out.2.2.1; have hz9 : LT < wc.heap.size := (by omega); clear hg hp1 hof hkm; unfold ndV)
    all_goals
      rw [panicAs_normal]
      go_wp2_with fail
      have K := (((Kept.refl (Sx w.heap.size [w.heap.size]) wc).set8 (b := w.heap.size) (by simp) (.int .i64 3) (.string ⟨t.text.toArray⟩) (.int .i64 0) (.int .i64 0) (.int .i64 0) (.string ⟨#[]⟩) (.slice none 0 0) (.slice (some ⟨wc.heap.size, 0, none⟩) 1 1)).alloc (.cells #[.int .i64 m2.kind, .string ⟨m2.text.toArray⟩, .int .i64 m2.num, .int .i64 m2.typ.kind, .int .i64 m2.typ.num, .string ⟨m2.typ.name.toArray⟩, .slice oa on oc, .slice ma mn mc] 28))
      refine at_leaves_ok (a := .mk 3 t.text 0 Ty.none [m2]) ((HF.out.1.set8 (Nat.le_refl _) (.int .i64 3) (.string ⟨t.text.toArray⟩) (.int .i64 0) (.int .i64 0) (.int .i64 0) (.string ⟨#[]⟩) (.slice none 0 0) (.slice (some ⟨wc.heap.size, 0, none⟩) 1 1)).alloc (.cells #[.int .i64 m2.kind, .string ⟨m2.text.toArray⟩, .int .i64 m2.num, .int .i64 m2.typ.kind, .int .i64 m2.typ.num, .string ⟨m2.typ.name.toArray⟩, .slice oa on oc, .slice ma mn mc] 28)) (by rw [HU.out]; rfl) HF.out.2.1 fun w' hg => ⟨ndV (.mk 3 t.text 0 Ty.none [m2]) (.slice none 0 0) (.slice (some ⟨wc.heap.size, 0, none⟩) 1 1), ?_, ?_⟩
      · obtain ⟨⟨q0, q1, q2, q3, q4, q5, q6, q7⟩, _⟩ := cells8_of w' w.heap.size _ _ _ _ _ _ _ _ _ (blk_call (blk_alloc (blk_put8 HF.out.2.2.1 (.int .i64 3) (.string ⟨t.text.toArray⟩) (.int .i64 0) (.int .i64 0) (.int .i64 0) (.string ⟨#[]⟩) (.slice none 0 0) (.slice (some ⟨wc.heap.size, 0, none⟩) 1 1)) (.cells #[.int .i64 m2.kind, .string ⟨m2.text.toArray⟩, .int .i64 m2.num, .int .i64 m2.typ.kind, .int .i64 m2.typ.num, .string ⟨m2.typ.name.toArray⟩, .slice oa on oc, .slice ma mn mc] 28)) hg (by simp; omega))
        simp [results, Tryz.results108, go_sem, q0, q1, q2, q3, q4, q5, q6, q7]; rfl
      · have K2 := K.call hg hbp
        have hnew := blk_call (blk_new ((((((((wc.setCell ⟨w.heap.size, 0, none⟩ (.int .i64 3)).setCell ⟨w.heap.size, 1, none⟩ (.string ⟨t.text.toArray⟩)).setCell ⟨w.heap.size, 2, none⟩ (.int .i64 0)).setCell ⟨w.heap.size, 3, none⟩ (.int .i64 0)).setCell ⟨w.heap.size, 4, none⟩ (.int .i64 0)).setCell ⟨w.heap.size, 5, none⟩ (.string ⟨#[]⟩)).setCell ⟨w.heap.size, 6, none⟩ (.slice none 0 0)).setCell ⟨w.heap.size, 7, none⟩ (.slice (some ⟨wc.heap.size, 0, none⟩) 1 1)) (.cells #[.int .i64 m2.kind, .string ⟨m2.text.toArray⟩, .int .i64 m2.num, .int .i64 m2.typ.kind, .int .i64 m2.typ.num, .string ⟨m2.typ.name.toArray⟩, .slice oa on oc, .slice ma mn mc] 28)) hg (by simp [World.setCell]; omega)
        refine ⟨_, _, rfl, RepOf.nil _ _, (RepK.one (S := (Sx w.heap.size [w.heap.size])) ((HF.out.2.2.2.1.into (X := [w.heap.size]) (B := w.heap.size) (by simp; omega) (by simp; omega)).kept K2) ((HF.out.2.2.2.2.into (X := [w.heap.size]) (B := w.heap.size) (by simp; omega) (by simp; omega)).kept K2) (by simpa [World.setCell] using hnew) ⟨by omega, by simp; omega⟩).out (Nat.le_refl _)⟩
  | false =>
  cases g2 : t.text == [126] with
  | true =>
    have hl : i + 1 < C.toks.length := hfin (.inl (by intro e; rw [e] at g2; cases g2))
    rw [if_pos (by simp [isUn, g2])] at hun
    have HU := Lib.hid hun
    clear hun hfin
    have HN : Hid (∀ w, Pr C w (i + 1) (d + 1) → Calls Tryz.prog 108 #[C.p] w (Out C w (d + 1) (R.unary (C.toks.drop (i + 1))) (fun n => ndVal n w))) := Lib.hid (fun w h => HL.out.un w (i + 1) h)
    obtain ⟨c0, c1, c2, c3, f0, f1, f2, f3⟩ := cells4_of w2 C.bp _ _ _ _ _ HA2.out.pr.blk
    go_wp2_with fail
    have HA7 := Lib.hid ((HA2.out.next hl (v := (i : Int) + 1) (by omega)).alloc (.cells #[.int .i64 t.kind, .int .i64 t.pos, .string ⟨t.text.toArray⟩, .int .i64 t.val] 49))
    have T7 := Lib.hid (blk_new' w2 (.cells #[.int .i64 t.kind, .int .i64 t.pos, .string ⟨t.text.toArray⟩, .int .i64 t.val] 49) ⟨C.bp, 1, none⟩ (.int .i64 ((i : Int) + 1)))
    have Z7 := Lib.hid (blk_alloc (blk_set Z2.out (p := ⟨C.bp, 1, none⟩) hwb (.int .i64 ((i : Int) + 1))) (.cells #[.int .i64 t.kind, .int .i64 t.pos, .string ⟨t.text.toArray⟩, .int .i64 t.val] 49))
    have hz7 : w2.heap.size < ((w2.setCell ⟨C.bp, 1, none⟩ (.int .i64 ((i : Int) + 1))).alloc (.cells #[.int .i64 t.kind, .int .i64 t.pos, .string ⟨t.text.toArray⟩, .int .i64 t.val] 49)).heap.size := by simp [World.setCell]
    generalize (w2.setCell ⟨C.bp, 1, none⟩ (.int .i64 ((i : Int) + 1))).alloc (.cells #[.int .i64 t.kind, .int .i64 t.pos, .string ⟨t.text.toArray⟩, .int .i64 t.val] 49) = W7 at *
    generalize w2.heap.size = LT at *
    obtain ⟨q0, q1, q2, q3, _⟩ := cells4_of W7 LT _ _ _ _ _ T7.out
    have zw7 : w.heap.size < W7.heap.size := by omega
    clear c0 c1 c2 c3 f0 f1 f2 f3 HA2 Z2 HL
    generalize R.unary (C.toks.drop (i + 1)) = R0 at *
    refine wp_panicAs (D := [{ target := .fn (.func 77) #[], args := #[C.p] }]) (fn := Tryz.f108) (R := Out C w d _ _) (fun ch a w h => h) ?_
    go_region_with (go_at_call 108; refine (HN.out _ HA7.out.drew.pr).mono ?_; rcases R0 with ⟨m2, r⟩ | ⟨p, er⟩; rotate_left; (rintro e wc ⟨hg, i2, d2, rfl, hdd, hp1⟩; exact ⟨rfl, fun tm => at_leaves_err (HA7.out.drew.turn hg hp1) (by rw [HU.out]; rfl) hdd⟩); rintro e wc ⟨hg, v1, i2, rfl, ⟨ofm, km, rfl, hof, hkm⟩, hp1, hd1⟩; obtain ⟨oa, on, oc, rfl⟩ := hof.isSlice; obtain ⟨ma, mn, mc, rfl⟩ := hkm.isSlice; have hz8 := hg.size; simp at hz8; have z8 : w.heap.size < wc.heap.size := (by omega); have HF := Lib.hid (And.intro (HA7.out.drew.turn hg hp1) (And.intro hd1 (And.intro (blk_call Z7.out (undrew hg) (by simp; omega)) (And.intro hof hkm)))); obtain ⟨p0, p1, p2, p3, _⟩ := cells4_of wc LT _ _ _ _ _ (blk_call T7.out (undrew hg) (by simp; omega)); obtain ⟨_, e0, e1, e2, e3, e4, e5, e6, e7⟩ := cells8_of wc w.heap.size _ _ _ _ _ _ _ _ _ HF.out.2.2.1; have hz9 : LT < wc.heap.size := (by omega); clear hg hp1 hof hkm; unfold ndV)
    all_goals
      rw [panicAs_normal]
      go_wp2_with fail
      have K := (((Kept.refl (Sx w.heap.size [w.heap.size]) wc).set8 (b := w.heap.size) (by simp) (.int .i64 3) (.string ⟨t.text.toArray⟩) (.int .i64 0) (.int .i64 0) (.int .i64 0) (.string ⟨#[]⟩) (.slice none 0 0) (.slice (some ⟨wc.heap.size, 0, none⟩) 1 1)).alloc (.cells #[.int .i64 m2.kind, .string ⟨m2.text.toArray⟩, .int .i64 m2.num, .int .i64 m2.typ.kind, .int .i64 m2.typ.num, .string ⟨m2.typ.name.toArray⟩, .slice oa on oc, .slice ma mn mc] 28))
      refine at_leaves_ok (a := .mk 3 t.text 0 Ty.none [m2]) ((HF.out.1.set8 (Nat.le_refl _) (.int .i64 3) (.string ⟨t.text.toArray⟩) (.int .i64 0) (.int .i64 0) (.int .i64 0) (.string ⟨#[]⟩) (.slice none 0 0) (.slice (some ⟨wc.heap.size, 0, none⟩) 1 1)).alloc (.cells #[.int .i64 m2.kind, .string ⟨m2.text.toArray⟩, .int .i64 m2.num, .int .i64 m2.typ.kind, .int .i64 m2.typ.num, .string ⟨m2.typ.name.toArray⟩, .slice oa on oc, .slice ma mn mc] 28)) (by rw [HU.out]; rfl) HF.out.2.1 fun w' hg => ⟨ndV (.mk 3 t.text 0 Ty.none [m2]) (.slice none 0 0) (.slice (some ⟨wc.heap.size, 0, none⟩) 1 1), ?_, ?_⟩
      · obtain ⟨⟨q0, q1, q2, q3, q4, q5, q6, q7⟩, _⟩ := cells8_of w' w.heap.size _ _ _ _ _ _ _ _ _ (blk_call (blk_alloc (blk_put8 HF.out.2.2.1 (.int .i64 3) (.string ⟨t.text.toArray⟩) (.int .i64 0) (.int .i64 0) (.int .i64 0) (.string ⟨#[]⟩) (.slice none 0 0) (.slice (some ⟨wc.heap.size, 0, none⟩) 1 1)) (.cells #[.int .i64 m2.kind, .string ⟨m2.text.toArray⟩, .int .i64 m2.num, .int .i64 m2.typ.kind, .int .i64 m2.typ.num, .string ⟨m2.typ.name.toArray⟩, .slice oa on oc, .slice ma mn mc] 28)) hg (by simp; omega))
        simp [results, Tryz.results108, go_sem, q0, q1, q2, q3, q4, q5, q6, q7]; rfl
      · have K2 := K.call hg hbp
        have hnew := blk_call (blk_new ((((((((wc.setCell ⟨w.heap.size, 0, none⟩ (.int .i64 3)).setCell ⟨w.heap.size, 1, none⟩ (.string ⟨t.text.toArray⟩)).setCell ⟨w.heap.size, 2, none⟩ (.int .i64 0)).setCell ⟨w.heap.size, 3, none⟩ (.int .i64 0)).setCell ⟨w.heap.size, 4, none⟩ (.int .i64 0)).setCell ⟨w.heap.size, 5, none⟩ (.string ⟨#[]⟩)).setCell ⟨w.heap.size, 6, none⟩ (.slice none 0 0)).setCell ⟨w.heap.size, 7, none⟩ (.slice (some ⟨wc.heap.size, 0, none⟩) 1 1)) (.cells #[.int .i64 m2.kind, .string ⟨m2.text.toArray⟩, .int .i64 m2.num, .int .i64 m2.typ.kind, .int .i64 m2.typ.num, .string ⟨m2.typ.name.toArray⟩, .slice oa on oc, .slice ma mn mc] 28)) hg (by simp [World.setCell]; omega)
        refine ⟨_, _, rfl, RepOf.nil _ _, (RepK.one (S := (Sx w.heap.size [w.heap.size])) ((HF.out.2.2.2.1.into (X := [w.heap.size]) (B := w.heap.size) (by simp; omega) (by simp; omega)).kept K2) ((HF.out.2.2.2.2.into (X := [w.heap.size]) (B := w.heap.size) (by simp; omega) (by simp; omega)).kept K2) (by simpa [World.setCell] using hnew) ⟨by omega, by simp; omega⟩).out (Nat.le_refl _)⟩
  | false =>
  cases g3 : t.text == [42] with
  | true =>
    have hl : i + 1 < C.toks.length := hfin (.inl (by intro e; rw [e] at g3; cases g3))
    rw [if_pos (by simp [isUn, g3])] at hun
    have HU := Lib.hid hun
    clear hun hfin
    have HN : Hid (∀ w, Pr C w (i + 1) (d + 1) → Calls Tryz.prog 108 #[C.p] w (Out C w (d + 1) (R.unary (C.toks.drop (i + 1))) (fun n => ndVal n w))) := Lib.hid (fun w h => HL.out.un w (i + 1) h)
    obtain ⟨c0, c1, c2, c3, f0, f1, f2, f3⟩ := cells4_of w2 C.bp _ _ _ _ _ HA2.out.pr.blk
    go_wp2_with fail
    have HA7 := Lib.hid ((HA2.out.next hl (v := (i : Int) + 1) (by omega)).alloc (.cells #[.int .i64 t.kind, .int .i64 t.pos, .string ⟨t.text.toArray⟩, .int .i64 t.val] 49))
    have T7 := Lib.hid (blk_new' w2 (.cells #[.int .i64 t.kind, .int .i64 t.pos, .string ⟨t.text.toArray⟩, .int .i64 t.val] 49) ⟨C.bp, 1, none⟩ (.int .i64 ((i : Int) + 1)))
    have Z7 := Lib.hid (blk_alloc (blk_set Z2.out (p := ⟨C.bp, 1, none⟩) hwb (.int .i64 ((i : Int) + 1))) (.cells #[.int .i64 t.kind, .int .i64 t.pos, .string ⟨t.text.toArray⟩, .int .i64 t.val] 49))
    have hz7 : w2.heap.size < ((w2.setCell ⟨C.bp, 1, none⟩ (.int .i64 ((i : Int) + 1))).alloc (.cells #[.int .i64 t.kind, .int .i64 t.pos, .string ⟨t.text.toArray⟩, .int .i64 t.val] 49)).heap.size := by simp [World.setCell]
    generalize (w2.setCell ⟨C.bp, 1, none⟩ (.int .i64 ((i : Int) + 1))).alloc (.cells #[.int .i64 t.kind, .int .i64 t.pos, .string ⟨t.text.toArray⟩, .int .i64 t.val] 49) = W7 at *
    generalize w2.heap.size = LT at *
    obtain ⟨q0, q1, q2, q3, _⟩ := cells4_of W7 LT _ _ _ _ _ T7.out
    have zw7 : w.heap.size < W7.heap.size := by omega
    clear c0 c1 c2 c3 f0 f1 f2 f3 HA2 Z2 HL
    generalize R.unary (C.toks.drop (i + 1)) = R0 at *
    refine wp_panicAs (D := [{ target := .fn (.func 77) #[], args := #[C.p] }]) (fn := Tryz.f108) (R := Out C w d _ _) (fun ch a w h => h) ?_
    go_region_with (go_at_call 108; refine (HN.out _ HA7.out.drew.pr).mono ?_; rcases R0 with ⟨m2, r⟩ | ⟨p, er⟩; rotate_left; (rintro e wc ⟨hg, i2, d2, rfl, hdd, hp1⟩; exact ⟨rfl, fun tm => at_leaves_err (HA7.out.drew.turn hg hp1) (by rw [HU.out]; rfl) hdd⟩); rintro e wc ⟨hg, v1, i2, rfl, ⟨ofm, km, rfl, hof, hkm⟩, hp1, hd1⟩; obtain ⟨oa, on, oc, rfl⟩ := hof.isSlice; obtain ⟨ma, mn, mc, rfl⟩ := hkm.isSlice; have hz8 := hg.size; simp at hz8; have z8 : w.heap.size < wc.heap.size := (by omega); have HF := Lib.hid (And.intro (HA7.out.drew.turn hg hp1) (And.intro hd1 (And.intro (blk_call Z7.out (undrew hg) (by simp; omega)) (And.intro hof hkm)))); obtain ⟨p0, p1, p2, p3, _⟩ := cells4_of wc LT _ _ _ _ _ (blk_call T7.out (undrew hg) (by simp; omega)); obtain ⟨_, e0, e1, e2, e3, e4, e5, e6, e7⟩ := cells8_of wc w.heap.size _ _ _ _ _ _ _ _ _ HF.out.2.2.1; have hz9 : LT < wc.heap.size := (by omega); clear hg hp1 hof hkm; unfold ndV)
    all_goals
      rw [panicAs_normal]
      go_wp2_with fail
      have K := (((Kept.refl (Sx w.heap.size [w.heap.size]) wc).set8 (b := w.heap.size) (by simp) (.int .i64 3) (.string ⟨t.text.toArray⟩) (.int .i64 0) (.int .i64 0) (.int .i64 0) (.string ⟨#[]⟩) (.slice none 0 0) (.slice (some ⟨wc.heap.size, 0, none⟩) 1 1)).alloc (.cells #[.int .i64 m2.kind, .string ⟨m2.text.toArray⟩, .int .i64 m2.num, .int .i64 m2.typ.kind, .int .i64 m2.typ.num, .string ⟨m2.typ.name.toArray⟩, .slice oa on oc, .slice ma mn mc] 28))
      refine at_leaves_ok (a := .mk 3 t.text 0 Ty.none [m2]) ((HF.out.1.set8 (Nat.le_refl _) (.int .i64 3) (.string ⟨t.text.toArray⟩) (.int .i64 0) (.int .i64 0) (.int .i64 0) (.string ⟨#[]⟩) (.slice none 0 0) (.slice (some ⟨wc.heap.size, 0, none⟩) 1 1)).alloc (.cells #[.int .i64 m2.kind, .string ⟨m2.text.toArray⟩, .int .i64 m2.num, .int .i64 m2.typ.kind, .int .i64 m2.typ.num, .string ⟨m2.typ.name.toArray⟩, .slice oa on oc, .slice ma mn mc] 28)) (by rw [HU.out]; rfl) HF.out.2.1 fun w' hg => ⟨ndV (.mk 3 t.text 0 Ty.none [m2]) (.slice none 0 0) (.slice (some ⟨wc.heap.size, 0, none⟩) 1 1), ?_, ?_⟩
      · obtain ⟨⟨q0, q1, q2, q3, q4, q5, q6, q7⟩, _⟩ := cells8_of w' w.heap.size _ _ _ _ _ _ _ _ _ (blk_call (blk_alloc (blk_put8 HF.out.2.2.1 (.int .i64 3) (.string ⟨t.text.toArray⟩) (.int .i64 0) (.int .i64 0) (.int .i64 0) (.string ⟨#[]⟩) (.slice none 0 0) (.slice (some ⟨wc.heap.size, 0, none⟩) 1 1)) (.cells #[.int .i64 m2.kind, .string ⟨m2.text.toArray⟩, .int .i64 m2.num, .int .i64 m2.typ.kind, .int .i64 m2.typ.num, .string ⟨m2.typ.name.toArray⟩, .slice oa on oc, .slice ma mn mc] 28)) hg (by simp; omega))
        simp [results, Tryz.results108, go_sem, q0, q1, q2, q3, q4, q5, q6, q7]; rfl
      · have K2 := K.call hg hbp
        have hnew := blk_call (blk_new ((((((((wc.setCell ⟨w.heap.size, 0, none⟩ (.int .i64 3)).setCell ⟨w.heap.size, 1, none⟩ (.string ⟨t.text.toArray⟩)).setCell ⟨w.heap.size, 2, none⟩ (.int .i64 0)).setCell ⟨w.heap.size, 3, none⟩ (.int .i64 0)).setCell ⟨w.heap.size, 4, none⟩ (.int .i64 0)).setCell ⟨w.heap.size, 5, none⟩ (.string ⟨#[]⟩)).setCell ⟨w.heap.size, 6, none⟩ (.slice none 0 0)).setCell ⟨w.heap.size, 7, none⟩ (.slice (some ⟨wc.heap.size, 0, none⟩) 1 1)) (.cells #[.int .i64 m2.kind, .string ⟨m2.text.toArray⟩, .int .i64 m2.num, .int .i64 m2.typ.kind, .int .i64 m2.typ.num, .string ⟨m2.typ.name.toArray⟩, .slice oa on oc, .slice ma mn mc] 28)) hg (by simp [World.setCell]; omega)
        refine ⟨_, _, rfl, RepOf.nil _ _, (RepK.one (S := (Sx w.heap.size [w.heap.size])) ((HF.out.2.2.2.1.into (X := [w.heap.size]) (B := w.heap.size) (by simp; omega) (by simp; omega)).kept K2) ((HF.out.2.2.2.2.into (X := [w.heap.size]) (B := w.heap.size) (by simp; omega) (by simp; omega)).kept K2) (by simpa [World.setCell] using hnew) ⟨by omega, by simp; omega⟩).out (Nat.le_refl _)⟩
  | false =>
  cases g4 : t.text == [38] with
  | true =>
    have hl : i + 1 < C.toks.length := hfin (.inl (by intro e; rw [e] at g4; cases g4))
    rw [if_pos (by simp [isUn, g4])] at hun
    have HU := Lib.hid hun
    clear hun hfin
    have HN : Hid (∀ w, Pr C w (i + 1) (d + 1) → Calls Tryz.prog 108 #[C.p] w (Out C w (d + 1) (R.unary (C.toks.drop (i + 1))) (fun n => ndVal n w))) := Lib.hid (fun w h => HL.out.un w (i + 1) h)
    obtain ⟨c0, c1, c2, c3, f0, f1, f2, f3⟩ := cells4_of w2 C.bp _ _ _ _ _ HA2.out.pr.blk
    go_wp2_with fail
    have HA7 := Lib.hid ((HA2.out.next hl (v := (i : Int) + 1) (by omega)).alloc (.cells #[.int .i64 t.kind, .int .i64 t.pos, .string ⟨t.text.toArray⟩, .int .i64 t.val] 49))
    have T7 := Lib.hid (blk_new' w2 (.cells #[.int .i64 t.kind, .int .i64 t.pos, .string ⟨t.text.toArray⟩, .int .i64 t.val] 49) ⟨C.bp, 1, none⟩ (.int .i64 ((i : Int) + 1)))
    have Z7 := Lib.hid (blk_alloc (blk_set Z2.out (p := ⟨C.bp, 1, none⟩) hwb (.int .i64 ((i : Int) + 1))) (.cells #[.int .i64 t.kind, .int .i64 t.pos, .string ⟨t.text.toArray⟩, .int .i64 t.val] 49))
    have hz7 : w2.heap.size < ((w2.setCell ⟨C.bp, 1, none⟩ (.int .i64 ((i : Int) + 1))).alloc (.cells #[.int .i64 t.kind, .int .i64 t.pos, .string ⟨t.text.toArray⟩, .int .i64 t.val] 49)).heap.size := by simp [World.setCell]
    generalize (w2.setCell ⟨C.bp, 1, none⟩ (.int .i64 ((i : Int) + 1))).alloc (.cells #[.int .i64 t.kind, .int .i64 t.pos, .string ⟨t.text.toArray⟩, .int .i64 t.val] 49) = W7 at *
    generalize w2.heap.size = LT at *
    obtain ⟨q0, q1, q2, q3, _⟩ := cells4_of W7 LT _ _ _ _ _ T7.out
    have zw7 : w.heap.size < W7.heap.size := by omega
    clear c0 c1 c2 c3 f0 f1 f2 f3 HA2 Z2 HL
    generalize R.unary (C.toks.drop (i + 1)) = R0 at *
    refine wp_panicAs (D := [{ target := .fn (.func 77) #[], args := #[C.p] }]) (fn := Tryz.f108) (R := Out C w d _ _) (fun ch a w h => h) ?_
    go_region_with (go_at_call 108; refine (HN.out _ HA7.out.drew.pr).mono ?_; rcases R0 with ⟨m2, r⟩ | ⟨p, er⟩; rotate_left; (rintro e wc ⟨hg, i2, d2, rfl, hdd, hp1⟩; exact ⟨rfl, fun tm => at_leaves_err (HA7.out.drew.turn hg hp1) (by rw [HU.out]; rfl) hdd⟩); rintro e wc ⟨hg, v1, i2, rfl, ⟨ofm, km, rfl, hof, hkm⟩, hp1, hd1⟩; obtain ⟨oa, on, oc, rfl⟩ := hof.isSlice; obtain ⟨ma, mn, mc, rfl⟩ := hkm.isSlice; have hz8 := hg.size; simp at hz8; have z8 : w.heap.size < wc.heap.size := (by omega); have HF := Lib.hid (And.intro (HA7.out.drew.turn hg hp1) (And.intro hd1 (And.intro (blk_call Z7.out (undrew hg) (by simp; omega)) (And.intro hof hkm)))); obtain ⟨p0, p1, p2, p3, _⟩ := cells4_of wc LT _ _ _ _ _ (blk_call T7.out (undrew hg) (by simp; omega)); obtain ⟨_, e0, e1, e2, e3, e4, e5, e6, e7⟩ := cells8_of wc w.heap.size _ _ _ _ _ _ _ _ _ HF.out.2.2.1; have hz9 : LT < wc.heap.size := (by omega); clear hg hp1 hof hkm; unfold ndV)
    all_goals
      rw [panicAs_normal]
      go_wp2_with fail
      have K := (((Kept.refl (Sx w.heap.size [w.heap.size]) wc).set8 (b := w.heap.size) (by simp) (.int .i64 3) (.string ⟨t.text.toArray⟩) (.int .i64 0) (.int .i64 0) (.int .i64 0) (.string ⟨#[]⟩) (.slice none 0 0) (.slice (some ⟨wc.heap.size, 0, none⟩) 1 1)).alloc (.cells #[.int .i64 m2.kind, .string ⟨m2.text.toArray⟩, .int .i64 m2.num, .int .i64 m2.typ.kind, .int .i64 m2.typ.num, .string ⟨m2.typ.name.toArray⟩, .slice oa on oc, .slice ma mn mc] 28))
      refine at_leaves_ok (a := .mk 3 t.text 0 Ty.none [m2]) ((HF.out.1.set8 (Nat.le_refl _) (.int .i64 3) (.string ⟨t.text.toArray⟩) (.int .i64 0) (.int .i64 0) (.int .i64 0) (.string ⟨#[]⟩) (.slice none 0 0) (.slice (some ⟨wc.heap.size, 0, none⟩) 1 1)).alloc (.cells #[.int .i64 m2.kind, .string ⟨m2.text.toArray⟩, .int .i64 m2.num, .int .i64 m2.typ.kind, .int .i64 m2.typ.num, .string ⟨m2.typ.name.toArray⟩, .slice oa on oc, .slice ma mn mc] 28)) (by rw [HU.out]; rfl) HF.out.2.1 fun w' hg => ⟨ndV (.mk 3 t.text 0 Ty.none [m2]) (.slice none 0 0) (.slice (some ⟨wc.heap.size, 0, none⟩) 1 1), ?_, ?_⟩
      · obtain ⟨⟨q0, q1, q2, q3, q4, q5, q6, q7⟩, _⟩ := cells8_of w' w.heap.size _ _ _ _ _ _ _ _ _ (blk_call (blk_alloc (blk_put8 HF.out.2.2.1 (.int .i64 3) (.string ⟨t.text.toArray⟩) (.int .i64 0) (.int .i64 0) (.int .i64 0) (.string ⟨#[]⟩) (.slice none 0 0) (.slice (some ⟨wc.heap.size, 0, none⟩) 1 1)) (.cells #[.int .i64 m2.kind, .string ⟨m2.text.toArray⟩, .int .i64 m2.num, .int .i64 m2.typ.kind, .int .i64 m2.typ.num, .string ⟨m2.typ.name.toArray⟩, .slice oa on oc, .slice ma mn mc] 28)) hg (by simp; omega))
        simp [results, Tryz.results108, go_sem, q0, q1, q2, q3, q4, q5, q6, q7]; rfl
      · have K2 := K.call hg hbp
        have hnew := blk_call (blk_new ((((((((wc.setCell ⟨w.heap.size, 0, none⟩ (.int .i64 3)).setCell ⟨w.heap.size, 1, none⟩ (.string ⟨t.text.toArray⟩)).setCell ⟨w.heap.size, 2, none⟩ (.int .i64 0)).setCell ⟨w.heap.size, 3, none⟩ (.int .i64 0)).setCell ⟨w.heap.size, 4, none⟩ (.int .i64 0)).setCell ⟨w.heap.size, 5, none⟩ (.string ⟨#[]⟩)).setCell ⟨w.heap.size, 6, none⟩ (.slice none 0 0)).setCell ⟨w.heap.size, 7, none⟩ (.slice (some ⟨wc.heap.size, 0, none⟩) 1 1)) (.cells #[.int .i64 m2.kind, .string ⟨m2.text.toArray⟩, .int .i64 m2.num, .int .i64 m2.typ.kind, .int .i64 m2.typ.num, .string ⟨m2.typ.name.toArray⟩, .slice oa on oc, .slice ma mn mc] 28)) hg (by simp [World.setCell]; omega)
        refine ⟨_, _, rfl, RepOf.nil _ _, (RepK.one (S := (Sx w.heap.size [w.heap.size])) ((HF.out.2.2.2.1.into (X := [w.heap.size]) (B := w.heap.size) (by simp; omega) (by simp; omega)).kept K2) ((HF.out.2.2.2.2.into (X := [w.heap.size]) (B := w.heap.size) (by simp; omega) (by simp; omega)).kept K2) (by simpa [World.setCell] using hnew) ⟨by omega, by simp; omega⟩).out (Nat.le_refl _)⟩
  | false =>
  rw [if_neg (by simp [isUn, g0, g1, g2, g3, g4])] at hun
  cases g5 : t.text == [115, 105, 122, 101, 111, 102] with
  | true =>
    rw [g5, if_pos rfl] at hun
    have hl : i + 1 < C.toks.length := hfin (.inl (by intro e; rw [e] at g5; cases g5))
    have HU := Lib.hid hun
    clear hun hfin
    obtain ⟨c0, c1, c2, c3, f0, f1, f2, f3⟩ := cells4_of w2 C.bp _ _ _ _ _ HA2.out.pr.blk
    have HX := Lib.hid (fun w h => enclosed_any C (d + 1) R HL.out w (i + 1) h)
    generalize enclosedP R (C.toks.drop (i + 1)) = R0 at *
    go_wp2_with fail
    have HA7 := Lib.hid ((HA2.out.next hl (v := (i : Int) + 1) (by omega)).alloc (.cells #[.int .i64 t.kind, .int .i64 t.pos, .string ⟨t.text.toArray⟩, .int .i64 t.val] 49))
    have Z7 := Lib.hid (blk_alloc (blk_set Z2.out (p := ⟨C.bp, 1, none⟩) hwb (.int .i64 ((i : Int) + 1))) (.cells #[.int .i64 t.kind, .int .i64 t.pos, .string ⟨t.text.toArray⟩, .int .i64 t.val] 49))
    have hz7 : w2.heap.size < ((w2.setCell ⟨C.bp, 1, none⟩ (.int .i64 ((i : Int) + 1))).alloc (.cells #[.int .i64 t.kind, .int .i64 t.pos, .string ⟨t.text.toArray⟩, .int .i64 t.val] 49)).heap.size := by simp [World.setCell]
    refine (HX.out _ HA7.out.pr).mono ?_
    rcases R0 with ⟨ty, r⟩ | ⟨p, er⟩
    · rintro e wc ⟨hg, v1, i2, rfl, ⟨ofm, rfl, hof⟩, hp1, hd1⟩
      obtain ⟨oa, on, oc, rfl⟩ := hof.isSlice
      have hz8 := hg.size
      have HF := Lib.hid (And.intro (HA7.out.turn hg hp1) (And.intro hd1 (And.intro (blk_call Z7.out hg (by simp; omega)) (hof.into (X := [w.heap.size]) (B := w.heap.size) (by omega) (by simp; omega)))))
      obtain ⟨_, e0, e1, e2, e3, e4, e5, e6, e7⟩ := cells8_of wc w.heap.size _ _ _ _ _ _ _ _ _ HF.out.2.2.1
      have z8 : w.heap.size < wc.heap.size := by omega
      clear hg hp1 hof
      unfold tyV
      go_wp2_with fail
      have K := (Kept.refl (Sx w.heap.size [w.heap.size]) wc).set8 (b := w.heap.size) (by simp) (.int .i64 11) (.string ⟨#[]⟩) (.int .i64 0) (.int .i64 ty.kind) (.int .i64 ty.num) (.string ⟨ty.name.toArray⟩) (.slice oa on oc) (.slice none 0 0)
      refine at_leaves_ok (a := .mk 11 [] 0 ty []) (HF.out.1.set8 (Nat.le_refl _) (.int .i64 11) (.string ⟨#[]⟩) (.int .i64 0) (.int .i64 ty.kind) (.int .i64 ty.num) (.string ⟨ty.name.toArray⟩) (.slice oa on oc) (.slice none 0 0)) (by rw [HU.out]; rfl) HF.out.2.1 fun w' hg => ⟨ndV (.mk 11 [] 0 ty []) (.slice oa on oc) (.slice none 0 0), ?_, ?_⟩
      · obtain ⟨⟨q0, q1, q2, q3, q4, q5, q6, q7⟩, _⟩ := cells8_of w' w.heap.size _ _ _ _ _ _ _ _ _ (blk_call (blk_put8 HF.out.2.2.1 (.int .i64 11) (.string ⟨#[]⟩) (.int .i64 0) (.int .i64 ty.kind) (.int .i64 ty.num) (.string ⟨ty.name.toArray⟩) (.slice oa on oc) (.slice none 0 0)) hg (by simp; omega))
        simp [results, Tryz.results108, go_sem, q0, q1, q2, q3, q4, q5, q6, q7]; rfl
      · exact ⟨_, _, rfl, (HF.out.2.2.2.kept (K.call hg hbp)).out (Nat.le_refl _), RepK.nil _ _⟩
    · rintro e wc ⟨hg, i2, d2, rfl, hdd, hp1⟩
      exact at_leaves_err (HA7.out.turn hg hp1) (by rw [HU.out]; rfl) hdd
  | false =>
  rw [g5, if_neg (by simp)] at hun
  cases g6 : t.text == [40] with
  | true =>
    have hl : i + 1 < C.toks.length := hfin (.inl (by intro e; rw [e] at g6; cases g6))
    have HS := Lib.hid (fun w' (h' : Pr C w' i (d + 1)) => second_any C w' i (d + 1) h' _ (hd_at _ _ hl))
    generalize hdT (C.toks.drop (i + 1)) = t2 at *
    clear hfin
    go_wp2_with fail
    have HA3' := Lib.hid (HA2.out.alloc (.cells #[.int .i64 t.kind, .int .i64 t.pos, .string ⟨t.text.toArray⟩, .int .i64 t.val] 49))
    have Z3' := Lib.hid (blk_alloc Z2.out (.cells #[.int .i64 t.kind, .int .i64 t.pos, .string ⟨t.text.toArray⟩, .int .i64 t.val] 49))
    refine (HS.out _ HA3'.out.pr).mono ?_
    rintro e w3 ⟨rfl, hg3⟩
    have HA3 := Lib.hid (HA3'.out.call hg3)
    have Z3 := Lib.hid (blk_call Z3'.out hg3 (by simp))
    have hz3 := hg3.size
    simp at hz3
    have zw3 : w.heap.size < w3.heap.size := by omega
    clear hg3 HA3' Z3' HA2 Z2 HS
    unfold tkV
    by_cases k2 : t2.kind = 2
    · have HAx := Lib.hid (HA3.out.alloc (.cells #[.int .i64 2, .int .i64 t2.pos, .string ⟨t2.text.toArray⟩, .int .i64 t2.val] 49))
      have Zx := Lib.hid (blk_alloc Z3.out (.cells #[.int .i64 2, .int .i64 t2.pos, .string ⟨t2.text.toArray⟩, .int .i64 t2.val] 49))
      have zx : w.heap.size < (w3.alloc (.cells #[.int .i64 2, .int .i64 t2.pos, .string ⟨t2.text.toArray⟩, .int .i64 t2.val] 49)).heap.size := by simp; omega
      have k2b : (t2.kind == 2) = true := by simp [k2]
      cases s2 : t2.text == [115, 105, 122, 101, 111, 102] with
      | true =>
        rw [if_neg (by simp [s2])] at hun
        have HU := Lib.hid hun
        clear hun
        have HX := Lib.hid (fun w h => post_any C (d + 1) R HL.out w i h)
        go_wp2_with fail
        generalize postP R (C.toks.drop i) = R0 at *
        refine (HX.out _ HAx.out.pr).mono ?_
        rcases R0 with ⟨m2, r⟩ | ⟨p, er⟩
        · rintro e wc ⟨hg, v1, i2, rfl, ⟨ofm, km, rfl, hof, hkm⟩, hp1, hd1⟩
          obtain ⟨oa, on, oc, rfl⟩ := hof.isSlice
          obtain ⟨ma, mn, mc, rfl⟩ := hkm.isSlice
          have hz8 := hg.size
          have HF := Lib.hid (And.intro (HAx.out.turn hg hp1) (And.intro hd1 (And.intro (blk_call Zx.out hg (by simp; omega)) (And.intro (hof.into (X := [w.heap.size]) (B := w.heap.size) (by omega) (by simp; omega)) (hkm.into (X := [w.heap.size]) (B := w.heap.size) (by omega) (by simp; omega))))))
          obtain ⟨_, e0, e1, e2, e3, e4, e5, e6, e7⟩ := cells8_of wc w.heap.size _ _ _ _ _ _ _ _ _ HF.out.2.2.1
          have z8 : w.heap.size < wc.heap.size := by omega
          clear hg hp1 hof hkm
          unfold ndV
          go_wp2_with fail
          have K := (Kept.refl (Sx w.heap.size [w.heap.size]) wc).set8 (b := w.heap.size) (by simp) (.int .i64 m2.kind) (.string ⟨m2.text.toArray⟩) (.int .i64 m2.num) (.int .i64 m2.typ.kind) (.int .i64 m2.typ.num) (.string ⟨m2.typ.name.toArray⟩) (.slice oa on oc) (.slice ma mn mc)
          refine at_leaves_ok (a := m2) (HF.out.1.set8 (Nat.le_refl _) (.int .i64 m2.kind) (.string ⟨m2.text.toArray⟩) (.int .i64 m2.num) (.int .i64 m2.typ.kind) (.int .i64 m2.typ.num) (.string ⟨m2.typ.name.toArray⟩) (.slice oa on oc) (.slice ma mn mc)) (by rw [HU.out]) HF.out.2.1 fun w' hg => ⟨ndV m2 (.slice oa on oc) (.slice ma mn mc), ?_, ?_⟩
          · obtain ⟨⟨q0, q1, q2, q3, q4, q5, q6, q7⟩, _⟩ := cells8_of w' w.heap.size _ _ _ _ _ _ _ _ _ (blk_call (blk_put8 HF.out.2.2.1 (.int .i64 m2.kind) (.string ⟨m2.text.toArray⟩) (.int .i64 m2.num) (.int .i64 m2.typ.kind) (.int .i64 m2.typ.num) (.string ⟨m2.typ.name.toArray⟩) (.slice oa on oc) (.slice ma mn mc)) hg (by simp; omega))
            simp [results, Tryz.results108, go_sem, q0, q1, q2, q3, q4, q5, q6, q7]; rfl
          · exact ⟨_, _, rfl, (HF.out.2.2.2.1.kept (K.call hg hbp)).out (Nat.le_refl _), (HF.out.2.2.2.2.kept (K.call hg hbp)).out (Nat.le_refl _)⟩
        · rintro e wc ⟨hg, i2, d2, rfl, hdd, hp1⟩
          exact at_leaves_err (HAx.out.turn hg hp1) (by rw [HU.out]) hdd
      | false =>
        rw [if_pos ⟨g6, k2, s2⟩] at hun
        have HU := Lib.hid hun
        clear hun
        have HX := Lib.hid (fun w h => enclosed_any C (d + 1) R HL.out w i h)
        have HSh := Lib.hid HL.out.shr
        have HN := Lib.hid (HL.out.un)
        generalize hRE : enclosedP R (C.toks.drop i) = R0 at HX
        go_wp2_with fail
        refine (HX.out _ HAx.out.pr).mono ?_
        rcases R0 with ⟨ty, r⟩ | ⟨p, er⟩
        · rintro e w4 ⟨hg, v1, i2, rfl, ⟨ofm, rfl, hof⟩, hp1, rfl⟩
          obtain ⟨oa, on, oc, rfl⟩ := hof.isSlice
          have hz4 := hg.size
          have HA4 := Lib.hid (HAx.out.turn hg hp1)
          have Z4 := Lib.hid (blk_call Zx.out hg (by simp; omega))
          have HO4 := Lib.hid (hof.into (X := [w.heap.size]) (B := w.heap.size) (by omega) (by simp; omega))
          have zw4 : w.heap.size < w4.heap.size := by omega
          have HRE := Lib.hid hRE
          clear hg hp1 hof hRE HX HAx Zx HA3 Z3
          unfold tyV
          go_wp2_with fail
          have HA7 := Lib.hid (HA4.out.alloc (.cells #[.int .i64 ty.kind, .int .i64 ty.num, .string ⟨ty.name.toArray⟩, .slice oa on oc] 25))
          have T7 := Lib.hid (blk_new w4 (.cells #[.int .i64 ty.kind, .int .i64 ty.num, .string ⟨ty.name.toArray⟩, .slice oa on oc] 25))
          have Z7 := Lib.hid (blk_alloc Z4.out (.cells #[.int .i64 ty.kind, .int .i64 ty.num, .string ⟨ty.name.toArray⟩, .slice oa on oc] 25))
          have HO7 := Lib.hid (HO4.out.kept ((Kept.refl _ _).alloc (.cells #[.int .i64 ty.kind, .int .i64 ty.num, .string ⟨ty.name.toArray⟩, .slice oa on oc] 25)))
          have hz7 : w4.heap.size < (w4.alloc (.cells #[.int .i64 ty.kind, .int .i64 ty.num, .string ⟨ty.name.toArray⟩, .slice oa on oc] 25)).heap.size := by simp
          generalize w4.alloc (.cells #[.int .i64 ty.kind, .int .i64 ty.num, .string ⟨ty.name.toArray⟩, .slice oa on oc] 25) = W7 at *
          generalize w4.heap.size = LT at *
          obtain ⟨q0, q1, q2, q3, _⟩ := cells4_of W7 LT _ _ _ _ _ T7.out
          have zw7 : w.heap.size < W7.heap.size := by omega
          have HN2 := Lib.hid (fun w h => HN.out w i2 h)
          have HU2 : Hid (UN = (R.unary (C.toks.drop i2)).bind fun n r2 => .ok (.mk 10 [] 0 ty [n]) r2) := Lib.hid (by rw [HU.out, HRE.out]; rfl)
          clear HN HU HL
          generalize R.unary (C.toks.drop i2) = R0 at *
          refine wp_panicAs (D := [{ target := .fn (.func 77) #[], args := #[C.p] }]) (fn := Tryz.f108) (R := Out C w d _ _) (fun ch a w h => h) ?_
          go_region_with (go_at_call 108; refine (HN2.out _ HA7.out.drew.pr).mono ?_; rcases R0 with ⟨m2, r⟩ | ⟨p, er⟩; rotate_left; (rintro e wc ⟨hg, i3, d3, rfl, hdd, hp1⟩; exact ⟨rfl, fun tm => at_leaves_err (HA7.out.drew.turn hg hp1) (by rw [HU2.out]; rfl) hdd⟩); rintro e wc ⟨hg, v1, i3, rfl, ⟨ofq, km, rfl, hof, hkm⟩, hp1, hd1⟩; obtain ⟨xa, xn, xc, rfl⟩ := hof.isSlice; obtain ⟨ma, mn, mc, rfl⟩ := hkm.isSlice; have hz8 := hg.size; simp at hz8; have z8 : w.heap.size < wc.heap.size := (by omega); have HF := Lib.hid (And.intro (HA7.out.drew.turn hg hp1) (And.intro hd1 (And.intro (blk_call Z7.out (undrew hg) (by simp; omega)) (And.intro hof (And.intro hkm (HO7.out.kept ((Kept.refl _ _).drew.call hg hbp))))))); obtain ⟨p0, p1, p2, p3, _⟩ := cells4_of wc LT _ _ _ _ _ (blk_call T7.out (undrew hg) (by simp; omega)); obtain ⟨_, e0, e1, e2, e3, e4, e5, e6, e7⟩ := cells8_of wc w.heap.size _ _ _ _ _ _ _ _ _ HF.out.2.2.1; have hz9 : LT < wc.heap.size := (by omega); clear hg hp1 hof hkm; unfold ndV)
          all_goals
            rw [panicAs_normal]
            go_wp2_with fail
            have K := (((Kept.refl (Sx w.heap.size [w.heap.size]) wc).set8 (b := w.heap.size) (by simp) (.int .i64 10) (.string ⟨#[]⟩) (.int .i64 0) (.int .i64 ty.kind) (.int .i64 ty.num) (.string ⟨ty.name.toArray⟩) (.slice oa on oc) (.slice (some ⟨wc.heap.size, 0, none⟩) 1 1)).alloc (.cells #[.int .i64 m2.kind, .string ⟨m2.text.toArray⟩, .int .i64 m2.num, .int .i64 m2.typ.kind, .int .i64 m2.typ.num, .string ⟨m2.typ.name.toArray⟩, .slice xa xn xc, .slice ma mn mc] 28))
            refine at_leaves_ok (a := .mk 10 [] 0 ty [m2]) ((HF.out.1.set8 (Nat.le_refl _) (.int .i64 10) (.string ⟨#[]⟩) (.int .i64 0) (.int .i64 ty.kind) (.int .i64 ty.num) (.string ⟨ty.name.toArray⟩) (.slice oa on oc) (.slice (some ⟨wc.heap.size, 0, none⟩) 1 1)).alloc (.cells #[.int .i64 m2.kind, .string ⟨m2.text.toArray⟩, .int .i64 m2.num, .int .i64 m2.typ.kind, .int .i64 m2.typ.num, .string ⟨m2.typ.name.toArray⟩, .slice xa xn xc, .slice ma mn mc] 28)) (by rw [HU2.out]; rfl) HF.out.2.1 fun w' hg => ⟨ndV (.mk 10 [] 0 ty [m2]) (.slice oa on oc) (.slice (some ⟨wc.heap.size, 0, none⟩) 1 1), ?_, ?_⟩
            · obtain ⟨⟨q0, q1, q2, q3, q4, q5, q6, q7⟩, _⟩ := cells8_of w' w.heap.size _ _ _ _ _ _ _ _ _ (blk_call (blk_alloc (blk_put8 HF.out.2.2.1 (.int .i64 10) (.string ⟨#[]⟩) (.int .i64 0) (.int .i64 ty.kind) (.int .i64 ty.num) (.string ⟨ty.name.toArray⟩) (.slice oa on oc) (.slice (some ⟨wc.heap.size, 0, none⟩) 1 1)) (.cells #[.int .i64 m2.kind, .string ⟨m2.text.toArray⟩, .int .i64 m2.num, .int .i64 m2.typ.kind, .int .i64 m2.typ.num, .string ⟨m2.typ.name.toArray⟩, .slice xa xn xc, .slice ma mn mc] 28)) hg (by simp; omega))
              simp [results, Tryz.results108, go_sem, q0, q1, q2, q3, q4, q5, q6, q7]; rfl
            · have K2 := K.call hg hbp
              have hnew := blk_call (blk_new ((((((((wc.setCell ⟨w.heap.size, 0, none⟩ (.int .i64 10)).setCell ⟨w.heap.size, 1, none⟩ (.string ⟨#[]⟩)).setCell ⟨w.heap.size, 2, none⟩ (.int .i64 0)).setCell ⟨w.heap.size, 3, none⟩ (.int .i64 ty.kind)).setCell ⟨w.heap.size, 4, none⟩ (.int .i64 ty.num)).setCell ⟨w.heap.size, 5, none⟩ (.string ⟨ty.name.toArray⟩)).setCell ⟨w.heap.size, 6, none⟩ (.slice oa on oc)).setCell ⟨w.heap.size, 7, none⟩ (.slice (some ⟨wc.heap.size, 0, none⟩) 1 1)) (.cells #[.int .i64 m2.kind, .string ⟨m2.text.toArray⟩, .int .i64 m2.num, .int .i64 m2.typ.kind, .int .i64 m2.typ.num, .string ⟨m2.typ.name.toArray⟩, .slice xa xn xc, .slice ma mn mc] 28)) hg (by simp [World.setCell]; omega)
              refine ⟨_, _, rfl, (HF.out.2.2.2.2.2.kept K2).out (Nat.le_refl _), (RepK.one (S := (Sx w.heap.size [w.heap.size])) ((HF.out.2.2.2.1.into (X := [w.heap.size]) (B := w.heap.size) (by simp; omega) (by simp; omega)).kept K2) ((HF.out.2.2.2.2.1.into (X := [w.heap.size]) (B := w.heap.size) (by simp; omega) (by simp; omega)).kept K2) (by simpa [World.setCell] using hnew) ⟨by omega, by simp; omega⟩).out (Nat.le_refl _)⟩
        · rintro e w4 ⟨hg, i3, d3, rfl, hdd, hp1⟩
          exact at_leaves_err (HAx.out.turn hg hp1) (by rw [HU.out, hRE]; rfl) hdd
    · have HAx := Lib.hid (HA3.out.alloc (.cells #[.int .i64 t2.kind, .int .i64 t2.pos, .string ⟨t2.text.toArray⟩, .int .i64 t2.val] 49))
      have Zx := Lib.hid (blk_alloc Z3.out (.cells #[.int .i64 t2.kind, .int .i64 t2.pos, .string ⟨t2.text.toArray⟩, .int .i64 t2.val] 49))
      have zx : w.heap.size < (w3.alloc (.cells #[.int .i64 t2.kind, .int .i64 t2.pos, .string ⟨t2.text.toArray⟩, .int .i64 t2.val] 49)).heap.size := by simp; omega
      have k2b : (t2.kind == 2) = false := by simp [k2]
      rw [if_neg (by simp [k2])] at hun
      have HU := Lib.hid hun
      clear hun
      have HX := Lib.hid (fun w h => post_any C (d + 1) R HL.out w i h)
      go_wp2_with fail
      generalize postP R (C.toks.drop i) = R0 at *
      refine (HX.out _ HAx.out.pr).mono ?_
      rcases R0 with ⟨m2, r⟩ | ⟨p, er⟩
      · rintro e wc ⟨hg, v1, i2, rfl, ⟨ofm, km, rfl, hof, hkm⟩, hp1, hd1⟩
        obtain ⟨oa, on, oc, rfl⟩ := hof.isSlice
        obtain ⟨ma, mn, mc, rfl⟩ := hkm.isSlice
        have hz8 := hg.size
        have HF := Lib.hid (And.intro (HAx.out.turn hg hp1) (And.intro hd1 (And.intro (blk_call Zx.out hg (by simp; omega)) (And.intro (hof.into (X := [w.heap.size]) (B := w.heap.size) (by omega) (by simp; omega)) (hkm.into (X := [w.heap.size]) (B := w.heap.size) (by omega) (by simp; omega))))))
        obtain ⟨_, e0, e1, e2, e3, e4, e5, e6, e7⟩ := cells8_of wc w.heap.size _ _ _ _ _ _ _ _ _ HF.out.2.2.1
        have z8 : w.heap.size < wc.heap.size := by omega
        clear hg hp1 hof hkm
        unfold ndV
        go_wp2_with fail
        have K := (Kept.refl (Sx w.heap.size [w.heap.size]) wc).set8 (b := w.heap.size) (by simp) (.int .i64 m2.kind) (.string ⟨m2.text.toArray⟩) (.int .i64 m2.num) (.int .i64 m2.typ.kind) (.int .i64 m2.typ.num) (.string ⟨m2.typ.name.toArray⟩) (.slice oa on oc) (.slice ma mn mc)
        refine at_leaves_ok (a := m2) (HF.out.1.set8 (Nat.le_refl _) (.int .i64 m2.kind) (.string ⟨m2.text.toArray⟩) (.int .i64 m2.num) (.int .i64 m2.typ.kind) (.int .i64 m2.typ.num) (.string ⟨m2.typ.name.toArray⟩) (.slice oa on oc) (.slice ma mn mc)) (by rw [HU.out]) HF.out.2.1 fun w' hg => ⟨ndV m2 (.slice oa on oc) (.slice ma mn mc), ?_, ?_⟩
        · obtain ⟨⟨q0, q1, q2, q3, q4, q5, q6, q7⟩, _⟩ := cells8_of w' w.heap.size _ _ _ _ _ _ _ _ _ (blk_call (blk_put8 HF.out.2.2.1 (.int .i64 m2.kind) (.string ⟨m2.text.toArray⟩) (.int .i64 m2.num) (.int .i64 m2.typ.kind) (.int .i64 m2.typ.num) (.string ⟨m2.typ.name.toArray⟩) (.slice oa on oc) (.slice ma mn mc)) hg (by simp; omega))
          simp [results, Tryz.results108, go_sem, q0, q1, q2, q3, q4, q5, q6, q7]; rfl
        · exact ⟨_, _, rfl, (HF.out.2.2.2.1.kept (K.call hg hbp)).out (Nat.le_refl _), (HF.out.2.2.2.2.kept (K.call hg hbp)).out (Nat.le_refl _)⟩
      · rintro e wc ⟨hg, i2, d2, rfl, hdd, hp1⟩
        exact at_leaves_err (HAx.out.turn hg hp1) (by rw [HU.out]) hdd
  | false =>
  rw [if_neg (by rw [g6]; simp)] at hun
  have HU := Lib.hid hun
  clear hun hfin
  have HX := Lib.hid (fun w h => post_any C (d + 1) R HL.out w i h)
  go_wp2_with fail
  have HAx := Lib.hid (HA2.out.alloc (.cells #[.int .i64 t.kind, .int .i64 t.pos, .string ⟨t.text.toArray⟩, .int .i64 t.val] 49))
  have Zx := Lib.hid (blk_alloc Z2.out (.cells #[.int .i64 t.kind, .int .i64 t.pos, .string ⟨t.text.toArray⟩, .int .i64 t.val] 49))
  have zx : w.heap.size < (w2.alloc (.cells #[.int .i64 t.kind, .int .i64 t.pos, .string ⟨t.text.toArray⟩, .int .i64 t.val] 49)).heap.size := by simp; omega
  generalize postP R (C.toks.drop i) = R0 at *
  refine (HX.out _ HAx.out.pr).mono ?_
  rcases R0 with ⟨m2, r⟩ | ⟨p, er⟩
  · rintro e wc ⟨hg, v1, i2, rfl, ⟨ofm, km, rfl, hof, hkm⟩, hp1, hd1⟩
    obtain ⟨oa, on, oc, rfl⟩ := hof.isSlice
    obtain ⟨ma, mn, mc, rfl⟩ := hkm.isSlice
    have hz8 := hg.size
    have HF := Lib.hid (And.intro (HAx.out.turn hg hp1) (And.intro hd1 (And.intro (blk_call Zx.out hg (by simp; omega)) (And.intro (hof.into (X := [w.heap.size]) (B := w.heap.size) (by omega) (by simp; omega)) (hkm.into (X := [w.heap.size]) (B := w.heap.size) (by omega) (by simp; omega))))))
    obtain ⟨_, e0, e1, e2, e3, e4, e5, e6, e7⟩ := cells8_of wc w.heap.size _ _ _ _ _ _ _ _ _ HF.out.2.2.1
    have z8 : w.heap.size < wc.heap.size := by omega
    clear hg hp1 hof hkm
    unfold ndV
    go_wp2_with fail
    have K := (Kept.refl (Sx w.heap.size [w.heap.size]) wc).set8 (b := w.heap.size) (by simp) (.int .i64 m2.kind) (.string ⟨m2.text.toArray⟩) (.int .i64 m2.num) (.int .i64 m2.typ.kind) (.int .i64 m2.typ.num) (.string ⟨m2.typ.name.toArray⟩) (.slice oa on oc) (.slice ma mn mc)
    refine at_leaves_ok (a := m2) (HF.out.1.set8 (Nat.le_refl _) (.int .i64 m2.kind) (.string ⟨m2.text.toArray⟩) (.int .i64 m2.num) (.int .i64 m2.typ.kind) (.int .i64 m2.typ.num) (.string ⟨m2.typ.name.toArray⟩) (.slice oa on oc) (.slice ma mn mc)) (by rw [HU.out]) HF.out.2.1 fun w' hg => ⟨ndV m2 (.slice oa on oc) (.slice ma mn mc), ?_, ?_⟩
    · obtain ⟨⟨q0, q1, q2, q3, q4, q5, q6, q7⟩, _⟩ := cells8_of w' w.heap.size _ _ _ _ _ _ _ _ _ (blk_call (blk_put8 HF.out.2.2.1 (.int .i64 m2.kind) (.string ⟨m2.text.toArray⟩) (.int .i64 m2.num) (.int .i64 m2.typ.kind) (.int .i64 m2.typ.num) (.string ⟨m2.typ.name.toArray⟩) (.slice oa on oc) (.slice ma mn mc)) hg (by simp; omega))
      simp [results, Tryz.results108, go_sem, q0, q1, q2, q3, q4, q5, q6, q7]; rfl
    · exact ⟨_, _, rfl, (HF.out.2.2.2.1.kept (K.call hg hbp)).out (Nat.le_refl _), (HF.out.2.2.2.2.kept (K.call hg hbp)).out (Nat.le_refl _)⟩
  · rintro e wc ⟨hg, i2, d2, rfl, hdd, hp1⟩
    exact at_leaves_err (HAx.out.turn hg hp1) (by rw [HU.out]) hdd
end Go.Proofs.YtkbplcfehllbjaaGreatDoor
