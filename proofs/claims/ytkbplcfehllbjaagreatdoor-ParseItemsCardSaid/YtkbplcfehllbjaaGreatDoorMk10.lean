/- Merged: Q29, Q30, B1. -/
import Derived.Test.YtkbplcfehllbjaaGreatDoorMk9
import Derived.Test.YtkbplcfehllbjaaGreatDoorChecked
import Derived.RangeFuncNested
import Derived.RangeFuncBound
import Derived.RangeFuncCalls
import Derived.RangeFuncLeaves
import Derived.RangeFuncBox
import Derived.Shelf.Abstract
import Derived.Shelf.RegionOpen
import Derived.WalkKit
import Derived.OwnWalkIn
import Derived.TacticsInMore
import Derived.LoopNIn
import Derived.LoopIn
/- stmt. -/
namespace Go.Proofs.YtkbplcfehllbjaaGreatDoor
open Go.RowKit
attribute [local go_sem ↓] Go.wp_at_zero Go.wp_at_succ
set_option maxRecDepth 100000 in
set_option maxHeartbeats 4000000 in
theorem stmt_any (C : Ctx) (d : Nat) (R : Rec) (hd : d < 60) (L : Lev C (d + 1) R) (HD : RunsN 71 C (d + 1) (declP R)) : RunsN 89 C d (stmtF R) := by
  intro w i h
  have HP := Lib.hid h.at
  have hbp := lt_of_heap h.blk
  have hlen := h.len
  have HL := Lib.hid L
  have hi0 := h.lt
  have hp : C.p = .pointer (some ⟨C.bp, 0, none⟩) := rfl
  have HT := Lib.hid (fun w' (h' : Pr C w' i (d + 1)) => token_any C w' i (d + 1) h' _ (hd_at _ _ h.lt))
  have hfin := h.fin i _ (hd_at _ _ h.lt)
  clear L h
  have hun : stmtF R (C.toks.drop i) = if (hdT (C.toks.drop i)).text == [123] then blockP R (C.toks.drop i)
    else if (hdT (C.toks.drop i)).text == [59] then .ok (Nd.of 17 []) (C.toks.drop i).tail
    else if (hdT (C.toks.drop i)).text == [105, 102] then choiceP R (C.toks.drop i)
    else if (hdT (C.toks.drop i)).text == [119, 104, 105, 108, 101] then (conditionP R (C.toks.drop i).tail).bind fun c r1 => (R.stmt r1).bind fun a r2 => .ok (Nd.of 15 [c, a]) r2
    else if (hdT (C.toks.drop i)).text == [114, 101, 116, 117, 114, 110] then resultP R (C.toks.drop i)
    else if (hdT (C.toks.drop i)).text == [98, 114, 101, 97, 107] then leapP 18 (C.toks.drop i)
    else if (hdT (C.toks.drop i)).text == [99, 111, 110, 116, 105, 110, 117, 101] then leapP 19 (C.toks.drop i)
    else if (typeKind (hdT (C.toks.drop i)).text).isSome = true then localP R (C.toks.drop i)
    else (R.expr (C.toks.drop i)).bind fun n r => (wantP [59] r).bind fun _ r1 => .ok (Nd.of 12 [n]) r1 := rfl
  rw [tl_at] at hun
  generalize hdT (C.toks.drop i) = t at *
  generalize stmtF R (C.toks.drop i) = UN at *
  go_enter_defers Tryz.func89, Tryz.ntmps89
  go_wp2_with fail
  have HA0 := Lib.hid (HP.out.alloc (.cells #[.int .i64 0, .string ⟨#[]⟩, .int .i64 0, .int .i64 0, .int .i64 0, .string ⟨#[]⟩, .slice none 0 0, .slice none 0 0] 28))
  have B0 := Lib.hid (blk_new w (.cells #[.int .i64 0, .string ⟨#[]⟩, .int .i64 0, .int .i64 0, .int .i64 0, .string ⟨#[]⟩, .slice none 0 0, .slice none 0 0] 28))
  refine (enter_yes C _ i d HA0.out.pr hd).mono ?_
  rintro e w1 ⟨rfl, hg, hp1⟩
  have HA1 := Lib.hid (HA0.out.turn hg hp1)
  have B1 := Lib.hid (blk_call B0.out hg (by simp; omega))
  have hz1 := hg.size
  simp at hz1
  clear hg hp1
  go_wp2_with fail
  refine (HT.out _ HA1.out.pr).mono ?_
  rintro e w2 ⟨rfl, hg⟩
  have HA2 := Lib.hid (HA1.out.call hg)
  have Z2 := Lib.hid (blk_call B1.out hg (by simp))
  have hz2 := hg.size
  have zw : w.heap.size < w2.heap.size := by omega
  have zb : C.bp < w2.heap.size := by omega
  have hwb : w.heap.size ≠ C.bp := by omega
  have hwb' : ¬ w.heap.size = C.bp := by omega
  have hbw' : ¬ C.bp = w.heap.size := by omega
  clear hg HP HT HA0 HA1 B0 B1
  unfold tkV
  cases g0 : t.text == [123] with
  | true =>
    rw [g0, if_pos rfl] at hun
    have HU := Lib.hid hun
    clear hun hfin
    have HX := Lib.hid (fun w (h : Pr C w i (d + 1)) => block_any C (d + 1) R HL.out w i h)
    go_wp2_with fail
    have HAx := Lib.hid (HA2.out.alloc (.cells #[.int .i64 t.kind, .int .i64 t.pos, .string ⟨t.text.toArray⟩, .int .i64 t.val] 49))
    have Zx := Lib.hid (blk_alloc Z2.out (.cells #[.int .i64 t.kind, .int .i64 t.pos, .string ⟨t.text.toArray⟩, .int .i64 t.val] 49))
    have zx : w.heap.size < (w2.alloc (.cells #[.int .i64 t.kind, .int .i64 t.pos, .string ⟨t.text.toArray⟩, .int .i64 t.val] 49)).heap.size := by simp; omega
    generalize blockP R (C.toks.drop i) = R0 at *
    refine (HX.out _ HAx.out.pr).mono ?_
    rcases R0 with ⟨m2, r⟩ | ⟨p, er⟩
    · rintro e wc ⟨hg, v1, i2, rfl, ⟨ofm, km, rfl, hof, hkm⟩, hp1, hd1⟩
      obtain ⟨oa, on, oc, rfl⟩ := hof.isSlice
      obtain ⟨ma, mn, mc, rfl⟩ := hkm.isSlice
      have hz8 := hg.size
      have HF := Lib.hid (And.intro (HAx.out.turn hg hp1) (And.intro hd1 (And.intro (blk_call Zx.out hg (by simp; omega)) (And.intro (hof.into (X := [w.heap.size]) (B := w.heap.size) (by omega) (by simp; omega)) (hkm.into (X := [w.heap.size]) (B := w.heap.size) (by omega) (by simp; omega))))))
      obtain ⟨_, e0, e1, e2, e3, e4, e5, e6, e7⟩ := cells8_of wc w.heap.size _ _ _ _ _ _ _ _ _ HF.out.2.2.1
      have z8 : w.heap.size < wc.heap.size := by omega
      clear hg hp1 hof hkm
      unfold ndV
      go_wp2_with fail
      have K := (Kept.refl (Sx w.heap.size [w.heap.size]) wc).set8 (b := w.heap.size) (by simp) (.int .i64 m2.kind) (.string ⟨m2.text.toArray⟩) (.int .i64 m2.num) (.int .i64 m2.typ.kind) (.int .i64 m2.typ.num) (.string ⟨m2.typ.name.toArray⟩) (.slice oa on oc) (.slice ma mn mc)
      refine at_leaves_ok (a := m2) (HF.out.1.set8 (Nat.le_refl _) (.int .i64 m2.kind) (.string ⟨m2.text.toArray⟩) (.int .i64 m2.num) (.int .i64 m2.typ.kind) (.int .i64 m2.typ.num) (.string ⟨m2.typ.name.toArray⟩) (.slice oa on oc) (.slice ma mn mc)) (by rw [HU.out]) HF.out.2.1 fun w' hg => ⟨ndV m2 (.slice oa on oc) (.slice ma mn mc), ?_, ?_⟩
      · obtain ⟨⟨q0, q1, q2, q3, q4, q5, q6, q7⟩, _⟩ := cells8_of w' w.heap.size _ _ _ _ _ _ _ _ _ (blk_call (blk_put8 HF.out.2.2.1 (.int .i64 m2.kind) (.string ⟨m2.text.toArray⟩) (.int .i64 m2.num) (.int .i64 m2.typ.kind) (.int .i64 m2.typ.num) (.string ⟨m2.typ.name.toArray⟩) (.slice oa on oc) (.slice ma mn mc)) hg (by simp; omega))
        simp [results, Tryz.results89, go_sem, q0, q1, q2, q3, q4, q5, q6, q7]; rfl
      · exact ⟨_, _, rfl, (HF.out.2.2.2.1.kept (K.call hg hbp)).out (Nat.le_refl _), (HF.out.2.2.2.2.kept (K.call hg hbp)).out (Nat.le_refl _)⟩
    · rintro e wc ⟨hg, i2, d2, rfl, hdd, hp1⟩
      exact at_leaves_err (HAx.out.turn hg hp1) (by rw [HU.out]) hdd
  | false =>
  rw [g0, if_neg (by simp)] at hun
  cases g1 : t.text == [59] with
  | true =>
    rw [g1, if_pos rfl] at hun
    have hl : i + 1 < C.toks.length := hfin (.inl (by intro e; rw [e] at g1; cases g1))
    have HU := Lib.hid hun
    clear hun hfin
    obtain ⟨c0, c1, c2, c3, f0, f1, f2, f3⟩ := cells4_of w2 C.bp _ _ _ _ _ HA2.out.pr.blk
    obtain ⟨_, e0, e1, e2, e3, e4, e5, e6, e7⟩ := cells8_of w2 w.heap.size _ _ _ _ _ _ _ _ _ Z2.out
    go_wp2_with fail
    refine at_leaves_ok (a := Nd.of 17 []) (((HA2.out.next hl (v := (i : Int) + 1) (by omega)).set8 (b := w.heap.size) (Nat.le_refl _) (.int .i64 17) (.string ⟨#[]⟩) (.int .i64 0) (.int .i64 0) (.int .i64 0) (.string ⟨#[]⟩) (.slice none 0 0) (.slice none 0 0)).alloc (.cells #[.int .i64 t.kind, .int .i64 t.pos, .string ⟨t.text.toArray⟩, .int .i64 t.val] 49)) HU.out rfl fun w' hg => ⟨ndV (Nd.of 17 []) (.slice none 0 0) (.slice none 0 0), ?_, ?_⟩
    · obtain ⟨⟨q0, q1, q2, q3, q4, q5, q6, q7⟩, _⟩ := cells8_of w' w.heap.size _ _ _ _ _ _ _ _ _ (blk_call (blk_alloc (blk_put8 (blk_set Z2.out (p := ⟨C.bp, 1, none⟩) hwb (.int .i64 ((i : Int) + 1))) (.int .i64 17) (.string ⟨#[]⟩) (.int .i64 0) (.int .i64 0) (.int .i64 0) (.string ⟨#[]⟩) (.slice none 0 0) (.slice none 0 0)) (.cells #[.int .i64 t.kind, .int .i64 t.pos, .string ⟨t.text.toArray⟩, .int .i64 t.val] 49)) hg (by simp; omega))
      simp [results, Tryz.results89, go_sem, q0, q1, q2, q3, q4, q5, q6, q7]; rfl
    · exact ⟨_, _, rfl, RepOf.nil _ _, RepK.nil _ _⟩
  | false =>
  rw [g1, if_neg (by simp)] at hun
  cases g2 : t.text == [105, 102] with
  | true =>
    rw [g2, if_pos rfl] at hun
    have HU := Lib.hid hun
    clear hun hfin
    have HX := Lib.hid (fun w (h : Pr C w i (d + 1)) => choice_any C (d + 1) R HL.out w i h)
    go_wp2_with fail
    have HAx := Lib.hid (HA2.out.alloc (.cells #[.int .i64 t.kind, .int .i64 t.pos, .string ⟨t.text.toArray⟩, .int .i64 t.val] 49))
    have Zx := Lib.hid (blk_alloc Z2.out (.cells #[.int .i64 t.kind, .int .i64 t.pos, .string ⟨t.text.toArray⟩, .int .i64 t.val] 49))
    have zx : w.heap.size < (w2.alloc (.cells #[.int .i64 t.kind, .int .i64 t.pos, .string ⟨t.text.toArray⟩, .int .i64 t.val] 49)).heap.size := by simp; omega
    generalize choiceP R (C.toks.drop i) = R0 at *
    refine (HX.out _ HAx.out.pr).mono ?_
    rcases R0 with ⟨m2, r⟩ | ⟨p, er⟩
    · rintro e wc ⟨hg, v1, i2, rfl, ⟨ofm, km, rfl, hof, hkm⟩, hp1, hd1⟩
      obtain ⟨oa, on, oc, rfl⟩ := hof.isSlice
      obtain ⟨ma, mn, mc, rfl⟩ := hkm.isSlice
      have hz8 := hg.size
      have HF := Lib.hid (And.intro (HAx.out.turn hg hp1) (And.intro hd1 (And.intro (blk_call Zx.out hg (by simp; omega)) (And.intro (hof.into (X := [w.heap.size]) (B := w.heap.size) (by omega) (by simp; omega)) (hkm.into (X := [w.heap.size]) (B := w.heap.size) (by omega) (by simp; omega))))))
      obtain ⟨_, e0, e1, e2, e3, e4, e5, e6, e7⟩ := cells8_of wc w.heap.size _ _ _ _ _ _ _ _ _ HF.out.2.2.1
      have z8 : w.heap.size < wc.heap.size := by omega
      clear hg hp1 hof hkm
      unfold ndV
      go_wp2_with fail
      have K := (Kept.refl (Sx w.heap.size [w.heap.size]) wc).set8 (b := w.heap.size) (by simp) (.int .i64 m2.kind) (.string ⟨m2.text.toArray⟩) (.int .i64 m2.num) (.int .i64 m2.typ.kind) (.int .i64 m2.typ.num) (.string ⟨m2.typ.name.toArray⟩) (.slice oa on oc) (.slice ma mn mc)
      refine at_leaves_ok (a := m2) (HF.out.1.set8 (Nat.le_refl _) (.int .i64 m2.kind) (.string ⟨m2.text.toArray⟩) (.int .i64 m2.num) (.int .i64 m2.typ.kind) (.int .i64 m2.typ.num) (.string ⟨m2.typ.name.toArray⟩) (.slice oa on oc) (.slice ma mn mc)) (by rw [HU.out]) HF.out.2.1 fun w' hg => ⟨ndV m2 (.slice oa on oc) (.slice ma mn mc), ?_, ?_⟩
      · obtain ⟨⟨q0, q1, q2, q3, q4, q5, q6, q7⟩, _⟩ := cells8_of w' w.heap.size _ _ _ _ _ _ _ _ _ (blk_call (blk_put8 HF.out.2.2.1 (.int .i64 m2.kind) (.string ⟨m2.text.toArray⟩) (.int .i64 m2.num) (.int .i64 m2.typ.kind) (.int .i64 m2.typ.num) (.string ⟨m2.typ.name.toArray⟩) (.slice oa on oc) (.slice ma mn mc)) hg (by simp; omega))
        simp [results, Tryz.results89, go_sem, q0, q1, q2, q3, q4, q5, q6, q7]; rfl
      · exact ⟨_, _, rfl, (HF.out.2.2.2.1.kept (K.call hg hbp)).out (Nat.le_refl _), (HF.out.2.2.2.2.kept (K.call hg hbp)).out (Nat.le_refl _)⟩
    · rintro e wc ⟨hg, i2, d2, rfl, hdd, hp1⟩
      exact at_leaves_err (HAx.out.turn hg hp1) (by rw [HU.out]) hdd
  | false =>
  rw [g2, if_neg (by simp)] at hun
  cases g3 : t.text == [119, 104, 105, 108, 101] with
  | true =>
    rw [g3, if_pos rfl] at hun
    have hl : i + 1 < C.toks.length := hfin (.inl (by intro e; rw [e] at g3; cases g3))
    have HU := Lib.hid hun
    clear hun hfin
    obtain ⟨c0, c1, c2, c3, f0, f1, f2, f3⟩ := cells4_of w2 C.bp _ _ _ _ _ HA2.out.pr.blk
    go_wp2_with fail
    have HA7 := Lib.hid ((HA2.out.next hl (v := (i : Int) + 1) (by omega)).alloc (.cells #[.int .i64 t.kind, .int .i64 t.pos, .string ⟨t.text.toArray⟩, .int .i64 t.val] 49))
    have Z7 := Lib.hid (blk_alloc (blk_set Z2.out (p := ⟨C.bp, 1, none⟩) hwb (.int .i64 ((i : Int) + 1))) (.cells #[.int .i64 t.kind, .int .i64 t.pos, .string ⟨t.text.toArray⟩, .int .i64 t.val] 49))
    have zw7 : w.heap.size < ((w2.setCell ⟨C.bp, 1, none⟩ (.int .i64 ((i : Int) + 1))).alloc (.cells #[.int .i64 t.kind, .int .i64 t.pos, .string ⟨t.text.toArray⟩, .int .i64 t.val] 49)).heap.size := by simp [World.setCell]; omega
    generalize (w2.setCell ⟨C.bp, 1, none⟩ (.int .i64 ((i : Int) + 1))).alloc (.cells #[.int .i64 t.kind, .int .i64 t.pos, .string ⟨t.text.toArray⟩, .int .i64 t.val] 49) = W7 at *
    clear c0 c1 c2 c3 f0 f1 f2 f3 HA2 Z2
    have HC := Lib.hid (condition_any C (d + 1) R HL.out W7 (i + 1) HA7.out.pr)
    generalize hRc : conditionP R (C.toks.drop (i + 1)) = Rc at HC
    refine HC.out.mono ?_
    rcases Rc with ⟨c, r⟩ | ⟨p, er⟩
    rotate_left
    · rintro e w3 ⟨hg, i3, d3, rfl, hdd, hp3⟩
      exact at_leaves_err (HA7.out.turn hg hp3) (by rw [HU.out, hRc]; rfl) hdd
    rintro e w3 ⟨hg, v3, i3, rfl, ⟨ofc, kvc, rfl, hof, hkv⟩, hp3, rfl⟩
    obtain ⟨sa, sn, sc, rfl⟩ := hof.isSlice
    obtain ⟨ka, kn, kc, rfl⟩ := hkv.isSlice
    have HA3 := Lib.hid (HA7.out.turn hg hp3)
    have Z3 := Lib.hid (blk_call Z7.out hg (by simp; omega))
    have HO3 := Lib.hid (hof.mono (S' := fun g => w.heap.size + 1 ≤ g) (fun g hs _ => by omega) (fun _ _ _ => rfl))
    have HK3 := Lib.hid (hkv.mono (S' := fun g => w.heap.size + 1 ≤ g) (fun g hs _ => by omega) (fun _ _ _ => rfl))
    have HRc := Lib.hid hRc
    have hz3 := hg.size
    clear hg hp3 hof hkv hRc HC HA7 Z7
    unfold ndV
    go_wp2_with fail
    have HC := Lib.hid (HL.out.st w3 i3 HA3.out.pr)
    generalize hRs : R.stmt (C.toks.drop i3) = Rs at HC
    refine HC.out.mono ?_
    rcases Rs with ⟨a, r⟩ | ⟨p, er⟩
    rotate_left
    · rintro e w4 ⟨hg, i4, d4, rfl, hdd, hp4⟩
      exact at_leaves_err (HA3.out.turn hg hp4) (by rw [HU.out, HRc.out, PR.bind_ok, hRs]; rfl) hdd
    rintro e w4 ⟨hg, v4, i4, rfl, ⟨ofa, kva, rfl, hof, hkv⟩, hp4, rfl⟩
    obtain ⟨oa, on, oc, rfl⟩ := hof.isSlice
    obtain ⟨ma, mn, mc, rfl⟩ := hkv.isSlice
    have HA4 := Lib.hid (HA3.out.turn hg hp4)
    have Z4 := Lib.hid (blk_call Z3.out hg (by simp; omega))
    have hz4 := hg.size
    have HT := Lib.hid (RepK.two (S := fun g => w.heap.size + 1 ≤ g) ((HO3.out.mono (S' := fun g => w.heap.size + 1 ≤ g) (fun g hs _ => hs) (fun k hs hk => hg.block k hk (by simp; omega))).kept ((Kept.refl _ w4).alloc (.cells #[.int .i64 c.kind, .string ⟨c.text.toArray⟩, .int .i64 c.num, .int .i64 c.typ.kind, .int .i64 c.typ.num, .string ⟨c.typ.name.toArray⟩, .slice sa sn sc, .slice ka kn kc, .int .i64 a.kind, .string ⟨a.text.toArray⟩, .int .i64 a.num, .int .i64 a.typ.kind, .int .i64 a.typ.num, .string ⟨a.typ.name.toArray⟩, .slice oa on oc, .slice ma mn mc] 28 (0, 0)))) ((HK3.out.mono (S' := fun g => w.heap.size + 1 ≤ g) (fun g hs _ => hs) (fun k hs hk => hg.block k hk (by simp; omega))).kept ((Kept.refl _ w4).alloc (.cells #[.int .i64 c.kind, .string ⟨c.text.toArray⟩, .int .i64 c.num, .int .i64 c.typ.kind, .int .i64 c.typ.num, .string ⟨c.typ.name.toArray⟩, .slice sa sn sc, .slice ka kn kc, .int .i64 a.kind, .string ⟨a.text.toArray⟩, .int .i64 a.num, .int .i64 a.typ.kind, .int .i64 a.typ.num, .string ⟨a.typ.name.toArray⟩, .slice oa on oc, .slice ma mn mc] 28 (0, 0)))) ((hof.mono (S' := fun g => w.heap.size + 1 ≤ g) (fun g hs _ => by omega) (fun _ _ _ => rfl)).kept ((Kept.refl _ w4).alloc (.cells #[.int .i64 c.kind, .string ⟨c.text.toArray⟩, .int .i64 c.num, .int .i64 c.typ.kind, .int .i64 c.typ.num, .string ⟨c.typ.name.toArray⟩, .slice sa sn sc, .slice ka kn kc, .int .i64 a.kind, .string ⟨a.text.toArray⟩, .int .i64 a.num, .int .i64 a.typ.kind, .int .i64 a.typ.num, .string ⟨a.typ.name.toArray⟩, .slice oa on oc, .slice ma mn mc] 28 (0, 0)))) ((hkv.mono (S' := fun g => w.heap.size + 1 ≤ g) (fun g hs _ => by omega) (fun _ _ _ => rfl)).kept ((Kept.refl _ w4).alloc (.cells #[.int .i64 c.kind, .string ⟨c.text.toArray⟩, .int .i64 c.num, .int .i64 c.typ.kind, .int .i64 c.typ.num, .string ⟨c.typ.name.toArray⟩, .slice sa sn sc, .slice ka kn kc, .int .i64 a.kind, .string ⟨a.text.toArray⟩, .int .i64 a.num, .int .i64 a.typ.kind, .int .i64 a.typ.num, .string ⟨a.typ.name.toArray⟩, .slice oa on oc, .slice ma mn mc] 28 (0, 0)))) (blk_new w4 (.cells #[.int .i64 c.kind, .string ⟨c.text.toArray⟩, .int .i64 c.num, .int .i64 c.typ.kind, .int .i64 c.typ.num, .string ⟨c.typ.name.toArray⟩, .slice sa sn sc, .slice ka kn kc, .int .i64 a.kind, .string ⟨a.text.toArray⟩, .int .i64 a.num, .int .i64 a.typ.kind, .int .i64 a.typ.num, .string ⟨a.typ.name.toArray⟩, .slice oa on oc, .slice ma mn mc] 28 (0, 0))) (by omega))
    have HRs := Lib.hid hRs
    clear hg hp4 hof hkv hRs HC HA3 Z3 HO3 HK3
    unfold ndV
    go_wp2_with fail
    refine (node_any 15 [c, a] _ _ _ HT.out).mono ?_
    rintro e w5 ⟨hg5, rfl, hr5⟩
    have HA5 := Lib.hid ((HA4.out.alloc (.cells #[.int .i64 c.kind, .string ⟨c.text.toArray⟩, .int .i64 c.num, .int .i64 c.typ.kind, .int .i64 c.typ.num, .string ⟨c.typ.name.toArray⟩, .slice sa sn sc, .slice ka kn kc, .int .i64 a.kind, .string ⟨a.text.toArray⟩, .int .i64 a.num, .int .i64 a.typ.kind, .int .i64 a.typ.num, .string ⟨a.typ.name.toArray⟩, .slice oa on oc, .slice ma mn mc] 28 (0, 0))).call hg5)
    have Z5 := Lib.hid (blk_call (blk_alloc Z4.out (.cells #[.int .i64 c.kind, .string ⟨c.text.toArray⟩, .int .i64 c.num, .int .i64 c.typ.kind, .int .i64 c.typ.num, .string ⟨c.typ.name.toArray⟩, .slice sa sn sc, .slice ka kn kc, .int .i64 a.kind, .string ⟨a.text.toArray⟩, .int .i64 a.num, .int .i64 a.typ.kind, .int .i64 a.typ.num, .string ⟨a.typ.name.toArray⟩, .slice oa on oc, .slice ma mn mc] 28 (0, 0))) hg5 (by simp))
    have HR5 := Lib.hid (hr5.mono (S' := (Sx w.heap.size [w.heap.size])) (fun g hs _ => ⟨by omega, by simp; omega⟩) (fun _ _ _ => rfl))
    obtain ⟨_, e0, e1, e2, e3, e4, e5, e6, e7⟩ := cells8_of w5 w.heap.size _ _ _ _ _ _ _ _ _ Z5.out
    have hz5 := hg5.size
    simp at hz5
    have z5 : w.heap.size < w5.heap.size := by omega
    clear hg5 hr5 HT
    unfold ndV
    go_wp2_with fail
    have K := (Kept.refl (Sx w.heap.size [w.heap.size]) w5).set8 (b := w.heap.size) (by simp) (.int .i64 (Nd.of 15 [c, a]).kind) (.string ⟨(Nd.of 15 [c, a]).text.toArray⟩) (.int .i64 (Nd.of 15 [c, a]).num) (.int .i64 (Nd.of 15 [c, a]).typ.kind) (.int .i64 (Nd.of 15 [c, a]).typ.num) (.string ⟨(Nd.of 15 [c, a]).typ.name.toArray⟩) (.slice none 0 0) (.slice (some ⟨w4.heap.size, 0, none⟩) 2 2)
    refine at_leaves_ok (a := Nd.of 15 [c, a]) (HA5.out.set8 (Nat.le_refl _) (.int .i64 (Nd.of 15 [c, a]).kind) (.string ⟨(Nd.of 15 [c, a]).text.toArray⟩) (.int .i64 (Nd.of 15 [c, a]).num) (.int .i64 (Nd.of 15 [c, a]).typ.kind) (.int .i64 (Nd.of 15 [c, a]).typ.num) (.string ⟨(Nd.of 15 [c, a]).typ.name.toArray⟩) (.slice none 0 0) (.slice (some ⟨w4.heap.size, 0, none⟩) 2 2)) (by rw [HU.out, HRc.out, PR.bind_ok, HRs.out, PR.bind_ok]) rfl fun w' hg => ⟨ndV (Nd.of 15 [c, a]) (.slice none 0 0) (.slice (some ⟨w4.heap.size, 0, none⟩) 2 2), ?_, ?_⟩
    · obtain ⟨⟨q0, q1, q2, q3, q4, q5, q6, q7⟩, _⟩ := cells8_of w' w.heap.size _ _ _ _ _ _ _ _ _ (blk_call (blk_put8 Z5.out (.int .i64 (Nd.of 15 [c, a]).kind) (.string ⟨(Nd.of 15 [c, a]).text.toArray⟩) (.int .i64 (Nd.of 15 [c, a]).num) (.int .i64 (Nd.of 15 [c, a]).typ.kind) (.int .i64 (Nd.of 15 [c, a]).typ.num) (.string ⟨(Nd.of 15 [c, a]).typ.name.toArray⟩) (.slice none 0 0) (.slice (some ⟨w4.heap.size, 0, none⟩) 2 2)) hg (by simp; omega))
      simp [results, Tryz.results89, go_sem, q0, q1, q2, q3, q4, q5, q6, q7]; rfl
    · exact ⟨_, _, rfl, RepOf.nil _ _, (HR5.out.kept (K.call hg hbp)).out (Nat.le_refl _)⟩
  | false =>
  rw [g3, if_neg (by simp)] at hun
  cases g4 : t.text == [114, 101, 116, 117, 114, 110] with
  | true =>
    rw [g4, if_pos rfl] at hun
    have HU := Lib.hid hun
    clear hun hfin
    have HX := Lib.hid (fun w (h : Pr C w i (d + 1)) => result_any C (d + 1) R HL.out w i h)
    go_wp2_with fail
    have HAx := Lib.hid (HA2.out.alloc (.cells #[.int .i64 t.kind, .int .i64 t.pos, .string ⟨t.text.toArray⟩, .int .i64 t.val] 49))
    have Zx := Lib.hid (blk_alloc Z2.out (.cells #[.int .i64 t.kind, .int .i64 t.pos, .string ⟨t.text.toArray⟩, .int .i64 t.val] 49))
    have zx : w.heap.size < (w2.alloc (.cells #[.int .i64 t.kind, .int .i64 t.pos, .string ⟨t.text.toArray⟩, .int .i64 t.val] 49)).heap.size := by simp; omega
    generalize resultP R (C.toks.drop i) = R0 at *
    refine (HX.out _ HAx.out.pr).mono ?_
    rcases R0 with ⟨m2, r⟩ | ⟨p, er⟩
    · rintro e wc ⟨hg, v1, i2, rfl, ⟨ofm, km, rfl, hof, hkm⟩, hp1, hd1⟩
      obtain ⟨oa, on, oc, rfl⟩ := hof.isSlice
      obtain ⟨ma, mn, mc, rfl⟩ := hkm.isSlice
      have hz8 := hg.size
      have HF := Lib.hid (And.intro (HAx.out.turn hg hp1) (And.intro hd1 (And.intro (blk_call Zx.out hg (by simp; omega)) (And.intro (hof.into (X := [w.heap.size]) (B := w.heap.size) (by omega) (by simp; omega)) (hkm.into (X := [w.heap.size]) (B := w.heap.size) (by omega) (by simp; omega))))))
      obtain ⟨_, e0, e1, e2, e3, e4, e5, e6, e7⟩ := cells8_of wc w.heap.size _ _ _ _ _ _ _ _ _ HF.out.2.2.1
      have z8 : w.heap.size < wc.heap.size := by omega
      clear hg hp1 hof hkm
      unfold ndV
      go_wp2_with fail
      have K := (Kept.refl (Sx w.heap.size [w.heap.size]) wc).set8 (b := w.heap.size) (by simp) (.int .i64 m2.kind) (.string ⟨m2.text.toArray⟩) (.int .i64 m2.num) (.int .i64 m2.typ.kind) (.int .i64 m2.typ.num) (.string ⟨m2.typ.name.toArray⟩) (.slice oa on oc) (.slice ma mn mc)
      refine at_leaves_ok (a := m2) (HF.out.1.set8 (Nat.le_refl _) (.int .i64 m2.kind) (.string ⟨m2.text.toArray⟩) (.int .i64 m2.num) (.int .i64 m2.typ.kind) (.int .i64 m2.typ.num) (.string ⟨m2.typ.name.toArray⟩) (.slice oa on oc) (.slice ma mn mc)) (by rw [HU.out]) HF.out.2.1 fun w' hg => ⟨ndV m2 (.slice oa on oc) (.slice ma mn mc), ?_, ?_⟩
      · obtain ⟨⟨q0, q1, q2, q3, q4, q5, q6, q7⟩, _⟩ := cells8_of w' w.heap.size _ _ _ _ _ _ _ _ _ (blk_call (blk_put8 HF.out.2.2.1 (.int .i64 m2.kind) (.string ⟨m2.text.toArray⟩) (.int .i64 m2.num) (.int .i64 m2.typ.kind) (.int .i64 m2.typ.num) (.string ⟨m2.typ.name.toArray⟩) (.slice oa on oc) (.slice ma mn mc)) hg (by simp; omega))
        simp [results, Tryz.results89, go_sem, q0, q1, q2, q3, q4, q5, q6, q7]; rfl
      · exact ⟨_, _, rfl, (HF.out.2.2.2.1.kept (K.call hg hbp)).out (Nat.le_refl _), (HF.out.2.2.2.2.kept (K.call hg hbp)).out (Nat.le_refl _)⟩
    · rintro e wc ⟨hg, i2, d2, rfl, hdd, hp1⟩
      exact at_leaves_err (HAx.out.turn hg hp1) (by rw [HU.out]) hdd
  | false =>
  rw [g4, if_neg (by simp)] at hun
  cases g5 : t.text == [98, 114, 101, 97, 107] with
  | true =>
    rw [g5, if_pos rfl] at hun
    have HU := Lib.hid hun
    have hl : i + 1 < C.toks.length := hfin (.inl (by intro e; rw [e] at g5; cases g5))
    clear hun hfin
    have HX := Lib.hid (fun w (h : Pr C w i (d + 1)) => leap_any 18 C w i (d + 1) h hl)
    go_wp2_with fail
    have HAx := Lib.hid (HA2.out.alloc (.cells #[.int .i64 t.kind, .int .i64 t.pos, .string ⟨t.text.toArray⟩, .int .i64 t.val] 49))
    have Zx := Lib.hid (blk_alloc Z2.out (.cells #[.int .i64 t.kind, .int .i64 t.pos, .string ⟨t.text.toArray⟩, .int .i64 t.val] 49))
    have zx : w.heap.size < (w2.alloc (.cells #[.int .i64 t.kind, .int .i64 t.pos, .string ⟨t.text.toArray⟩, .int .i64 t.val] 49)).heap.size := by simp; omega
    generalize leapP 18 (C.toks.drop i) = R0 at *
    refine (HX.out _ HAx.out.pr).mono ?_
    rcases R0 with ⟨m2, r⟩ | ⟨p, er⟩
    · rintro e wc ⟨hg, v1, i2, rfl, ⟨ofm, km, rfl, hof, hkm⟩, hp1, hd1⟩
      obtain ⟨oa, on, oc, rfl⟩ := hof.isSlice
      obtain ⟨ma, mn, mc, rfl⟩ := hkm.isSlice
      have hz8 := hg.size
      have HF := Lib.hid (And.intro (HAx.out.turn hg hp1) (And.intro hd1 (And.intro (blk_call Zx.out hg (by simp; omega)) (And.intro (hof.into (X := [w.heap.size]) (B := w.heap.size) (by omega) (by simp; omega)) (hkm.into (X := [w.heap.size]) (B := w.heap.size) (by omega) (by simp; omega))))))
      obtain ⟨_, e0, e1, e2, e3, e4, e5, e6, e7⟩ := cells8_of wc w.heap.size _ _ _ _ _ _ _ _ _ HF.out.2.2.1
      have z8 : w.heap.size < wc.heap.size := by omega
      clear hg hp1 hof hkm
      unfold ndV
      go_wp2_with fail
      have K := (Kept.refl (Sx w.heap.size [w.heap.size]) wc).set8 (b := w.heap.size) (by simp) (.int .i64 m2.kind) (.string ⟨m2.text.toArray⟩) (.int .i64 m2.num) (.int .i64 m2.typ.kind) (.int .i64 m2.typ.num) (.string ⟨m2.typ.name.toArray⟩) (.slice oa on oc) (.slice ma mn mc)
      refine at_leaves_ok (a := m2) (HF.out.1.set8 (Nat.le_refl _) (.int .i64 m2.kind) (.string ⟨m2.text.toArray⟩) (.int .i64 m2.num) (.int .i64 m2.typ.kind) (.int .i64 m2.typ.num) (.string ⟨m2.typ.name.toArray⟩) (.slice oa on oc) (.slice ma mn mc)) (by rw [HU.out]) HF.out.2.1 fun w' hg => ⟨ndV m2 (.slice oa on oc) (.slice ma mn mc), ?_, ?_⟩
      · obtain ⟨⟨q0, q1, q2, q3, q4, q5, q6, q7⟩, _⟩ := cells8_of w' w.heap.size _ _ _ _ _ _ _ _ _ (blk_call (blk_put8 HF.out.2.2.1 (.int .i64 m2.kind) (.string ⟨m2.text.toArray⟩) (.int .i64 m2.num) (.int .i64 m2.typ.kind) (.int .i64 m2.typ.num) (.string ⟨m2.typ.name.toArray⟩) (.slice oa on oc) (.slice ma mn mc)) hg (by simp; omega))
        simp [results, Tryz.results89, go_sem, q0, q1, q2, q3, q4, q5, q6, q7]; rfl
      · exact ⟨_, _, rfl, (HF.out.2.2.2.1.kept (K.call hg hbp)).out (Nat.le_refl _), (HF.out.2.2.2.2.kept (K.call hg hbp)).out (Nat.le_refl _)⟩
    · rintro e wc ⟨hg, i2, d2, rfl, hdd, hp1⟩
      exact at_leaves_err (HAx.out.turn hg hp1) (by rw [HU.out]) hdd
  | false =>
  rw [g5, if_neg (by simp)] at hun
  cases g6 : t.text == [99, 111, 110, 116, 105, 110, 117, 101] with
  | true =>
    rw [g6, if_pos rfl] at hun
    have HU := Lib.hid hun
    have hl : i + 1 < C.toks.length := hfin (.inl (by intro e; rw [e] at g6; cases g6))
    clear hun hfin
    have HX := Lib.hid (fun w (h : Pr C w i (d + 1)) => leap_any 19 C w i (d + 1) h hl)
    go_wp2_with fail
    have HAx := Lib.hid (HA2.out.alloc (.cells #[.int .i64 t.kind, .int .i64 t.pos, .string ⟨t.text.toArray⟩, .int .i64 t.val] 49))
    have Zx := Lib.hid (blk_alloc Z2.out (.cells #[.int .i64 t.kind, .int .i64 t.pos, .string ⟨t.text.toArray⟩, .int .i64 t.val] 49))
    have zx : w.heap.size < (w2.alloc (.cells #[.int .i64 t.kind, .int .i64 t.pos, .string ⟨t.text.toArray⟩, .int .i64 t.val] 49)).heap.size := by simp; omega
    generalize leapP 19 (C.toks.drop i) = R0 at *
    refine (HX.out _ HAx.out.pr).mono ?_
    rcases R0 with ⟨m2, r⟩ | ⟨p, er⟩
    · rintro e wc ⟨hg, v1, i2, rfl, ⟨ofm, km, rfl, hof, hkm⟩, hp1, hd1⟩
      obtain ⟨oa, on, oc, rfl⟩ := hof.isSlice
      obtain ⟨ma, mn, mc, rfl⟩ := hkm.isSlice
      have hz8 := hg.size
      have HF := Lib.hid (And.intro (HAx.out.turn hg hp1) (And.intro hd1 (And.intro (blk_call Zx.out hg (by simp; omega)) (And.intro (hof.into (X := [w.heap.size]) (B := w.heap.size) (by omega) (by simp; omega)) (hkm.into (X := [w.heap.size]) (B := w.heap.size) (by omega) (by simp; omega))))))
      obtain ⟨_, e0, e1, e2, e3, e4, e5, e6, e7⟩ := cells8_of wc w.heap.size _ _ _ _ _ _ _ _ _ HF.out.2.2.1
      have z8 : w.heap.size < wc.heap.size := by omega
      clear hg hp1 hof hkm
      unfold ndV
      go_wp2_with fail
      have K := (Kept.refl (Sx w.heap.size [w.heap.size]) wc).set8 (b := w.heap.size) (by simp) (.int .i64 m2.kind) (.string ⟨m2.text.toArray⟩) (.int .i64 m2.num) (.int .i64 m2.typ.kind) (.int .i64 m2.typ.num) (.string ⟨m2.typ.name.toArray⟩) (.slice oa on oc) (.slice ma mn mc)
      refine at_leaves_ok (a := m2) (HF.out.1.set8 (Nat.le_refl _) (.int .i64 m2.kind) (.string ⟨m2.text.toArray⟩) (.int .i64 m2.num) (.int .i64 m2.typ.kind) (.int .i64 m2.typ.num) (.string ⟨m2.typ.name.toArray⟩) (.slice oa on oc) (.slice ma mn mc)) (by rw [HU.out]) HF.out.2.1 fun w' hg => ⟨ndV m2 (.slice oa on oc) (.slice ma mn mc), ?_, ?_⟩
      · obtain ⟨⟨q0, q1, q2, q3, q4, q5, q6, q7⟩, _⟩ := cells8_of w' w.heap.size _ _ _ _ _ _ _ _ _ (blk_call (blk_put8 HF.out.2.2.1 (.int .i64 m2.kind) (.string ⟨m2.text.toArray⟩) (.int .i64 m2.num) (.int .i64 m2.typ.kind) (.int .i64 m2.typ.num) (.string ⟨m2.typ.name.toArray⟩) (.slice oa on oc) (.slice ma mn mc)) hg (by simp; omega))
        simp [results, Tryz.results89, go_sem, q0, q1, q2, q3, q4, q5, q6, q7]; rfl
      · exact ⟨_, _, rfl, (HF.out.2.2.2.1.kept (K.call hg hbp)).out (Nat.le_refl _), (HF.out.2.2.2.2.kept (K.call hg hbp)).out (Nat.le_refl _)⟩
    · rintro e wc ⟨hg, i2, d2, rfl, hdd, hp1⟩
      exact at_leaves_err (HAx.out.turn hg hp1) (by rw [HU.out]) hdd
  | false =>
  rw [g6, if_neg (by simp)] at hun
  have HAt := Lib.hid (HA2.out.alloc (.cells #[.int .i64 t.kind, .int .i64 t.pos, .string ⟨t.text.toArray⟩, .int .i64 t.val] 49))
  have Zt := Lib.hid (blk_alloc Z2.out (.cells #[.int .i64 t.kind, .int .i64 t.pos, .string ⟨t.text.toArray⟩, .int .i64 t.val] 49))
  have zt : w.heap.size < (w2.alloc (.cells #[.int .i64 t.kind, .int .i64 t.pos, .string ⟨t.text.toArray⟩, .int .i64 t.val] 49)).heap.size := by simp; omega
  cases hk : typeKind t.text with
  | some k =>
    rw [if_pos (by rw [hk]; rfl)] at hun
    have HU := Lib.hid hun
    have HV : Hid (typesV ⟨t.text.toArray⟩ = .tuple #[.int .i64 k, .bool true]) := by show _ = _; simp [typesV, hk]
    obtain ⟨m1, m2, _⟩ := typ_reads HAt.out.drew.pr HV.out
    clear hun hfin hk
    have HX := Lib.hid (fun w (h : Pr C w i (d + 1)) => local_any C (d + 1) R HL.out HD w i h)
    go_wp2_with fail
    go_region
    go_wp2_with fail
    have HAx := Lib.hid HAt.out.drew
    have Zx : Hid ((w2.alloc (.cells #[.int .i64 t.kind, .int .i64 t.pos, .string ⟨t.text.toArray⟩, .int .i64 t.val] 49)).drew.heap[w.heap.size]? = some (.cells #[.int .i64 0, .string ⟨#[]⟩, .int .i64 0, .int .i64 0, .int .i64 0, .string ⟨#[]⟩, .slice none 0 0, .slice none 0 0] 28)) := Lib.hid Zt.out
    have zx : w.heap.size < (w2.alloc (.cells #[.int .i64 t.kind, .int .i64 t.pos, .string ⟨t.text.toArray⟩, .int .i64 t.val] 49)).drew.heap.size := zt
    generalize localP R (C.toks.drop i) = R0 at *
    refine (HX.out _ HAx.out.pr).mono ?_
    rcases R0 with ⟨m2, r⟩ | ⟨p, er⟩
    · rintro e wc ⟨hg, v1, i2, rfl, ⟨ofm, km, rfl, hof, hkm⟩, hp1, hd1⟩
      obtain ⟨oa, on, oc, rfl⟩ := hof.isSlice
      obtain ⟨ma, mn, mc, rfl⟩ := hkm.isSlice
      have hz8 := hg.size
      have HF := Lib.hid (And.intro (HAx.out.turn hg hp1) (And.intro hd1 (And.intro (blk_call Zx.out hg (by simp; omega)) (And.intro (hof.into (X := [w.heap.size]) (B := w.heap.size) (by omega) (by simp; omega)) (hkm.into (X := [w.heap.size]) (B := w.heap.size) (by omega) (by simp; omega))))))
      obtain ⟨_, e0, e1, e2, e3, e4, e5, e6, e7⟩ := cells8_of wc w.heap.size _ _ _ _ _ _ _ _ _ HF.out.2.2.1
      have z8 : w.heap.size < wc.heap.size := by omega
      clear hg hp1 hof hkm
      unfold ndV
      go_wp2_with fail
      have K := (Kept.refl (Sx w.heap.size [w.heap.size]) wc).set8 (b := w.heap.size) (by simp) (.int .i64 m2.kind) (.string ⟨m2.text.toArray⟩) (.int .i64 m2.num) (.int .i64 m2.typ.kind) (.int .i64 m2.typ.num) (.string ⟨m2.typ.name.toArray⟩) (.slice oa on oc) (.slice ma mn mc)
      refine at_leaves_ok (a := m2) (HF.out.1.set8 (Nat.le_refl _) (.int .i64 m2.kind) (.string ⟨m2.text.toArray⟩) (.int .i64 m2.num) (.int .i64 m2.typ.kind) (.int .i64 m2.typ.num) (.string ⟨m2.typ.name.toArray⟩) (.slice oa on oc) (.slice ma mn mc)) (by rw [HU.out]) HF.out.2.1 fun w' hg => ⟨ndV m2 (.slice oa on oc) (.slice ma mn mc), ?_, ?_⟩
      · obtain ⟨⟨q0, q1, q2, q3, q4, q5, q6, q7⟩, _⟩ := cells8_of w' w.heap.size _ _ _ _ _ _ _ _ _ (blk_call (blk_put8 HF.out.2.2.1 (.int .i64 m2.kind) (.string ⟨m2.text.toArray⟩) (.int .i64 m2.num) (.int .i64 m2.typ.kind) (.int .i64 m2.typ.num) (.string ⟨m2.typ.name.toArray⟩) (.slice oa on oc) (.slice ma mn mc)) hg (by simp; omega))
        simp [results, Tryz.results89, go_sem, q0, q1, q2, q3, q4, q5, q6, q7]; rfl
      · exact ⟨_, _, rfl, (HF.out.2.2.2.1.kept (K.call hg hbp)).out (Nat.le_refl _), (HF.out.2.2.2.2.kept (K.call hg hbp)).out (Nat.le_refl _)⟩
    · rintro e wc ⟨hg, i2, d2, rfl, hdd, hp1⟩
      exact at_leaves_err (HAx.out.turn hg hp1) (by rw [HU.out]) hdd
  | none =>
    rw [if_neg (by rw [hk]; simp)] at hun
    have HU := Lib.hid hun
    have HV : Hid (typesV ⟨t.text.toArray⟩ = .tuple #[.int .i64 0, .bool false]) := by show _ = _; simp [typesV, hk]
    obtain ⟨m1, m2, _⟩ := typ_reads HAt.out.drew.pr HV.out
    clear hun hfin hk
    go_wp2_with fail
    go_region
    go_wp2_with fail
    have HAx := Lib.hid HAt.out.drew
    have Zx : Hid ((w2.alloc (.cells #[.int .i64 t.kind, .int .i64 t.pos, .string ⟨t.text.toArray⟩, .int .i64 t.val] 49)).drew.heap[w.heap.size]? = some (.cells #[.int .i64 0, .string ⟨#[]⟩, .int .i64 0, .int .i64 0, .int .i64 0, .string ⟨#[]⟩, .slice none 0 0, .slice none 0 0] 28)) := Lib.hid Zt.out
    have zx : w.heap.size < (w2.alloc (.cells #[.int .i64 t.kind, .int .i64 t.pos, .string ⟨t.text.toArray⟩, .int .i64 t.val] 49)).drew.heap.size := zt
    have HC := Lib.hid (HL.out.ex _ i HAx.out.pr)
    generalize hR1 : R.expr (C.toks.drop i) = R1 at HC
    refine HC.out.mono ?_
    rcases R1 with ⟨n, r⟩ | ⟨p, er⟩
    rotate_left
    · rintro e w3 ⟨hg, i3, d3, rfl, hdd, hp3⟩
      exact at_leaves_err (HAx.out.turn hg hp3) (by rw [HU.out, hR1]; rfl) hdd
    rintro e w3 ⟨hg, v3, i3, rfl, ⟨ofv, kv, rfl, hof, hkv⟩, hp3, rfl⟩
    obtain ⟨sa, sn, sc, rfl⟩ := hof.isSlice
    obtain ⟨ka, kn, kc, rfl⟩ := hkv.isSlice
    have HA3 := Lib.hid (HAx.out.turn hg hp3)
    have Z3 := Lib.hid (blk_call Zx.out hg (by simp; omega))
    have hz3 := hg.size
    have HT := Lib.hid (RepK.one (S := fun g => w.heap.size + 1 ≤ g) ((hof.mono (S' := fun g => w.heap.size + 1 ≤ g) (fun g hs _ => by omega) (fun _ _ _ => rfl)).kept ((Kept.refl _ w3).alloc (.cells #[.int .i64 n.kind, .string ⟨n.text.toArray⟩, .int .i64 n.num, .int .i64 n.typ.kind, .int .i64 n.typ.num, .string ⟨n.typ.name.toArray⟩, .slice sa sn sc, .slice ka kn kc] 28))) ((hkv.mono (S' := fun g => w.heap.size + 1 ≤ g) (fun g hs _ => by omega) (fun _ _ _ => rfl)).kept ((Kept.refl _ w3).alloc (.cells #[.int .i64 n.kind, .string ⟨n.text.toArray⟩, .int .i64 n.num, .int .i64 n.typ.kind, .int .i64 n.typ.num, .string ⟨n.typ.name.toArray⟩, .slice sa sn sc, .slice ka kn kc] 28))) (blk_new w3 (.cells #[.int .i64 n.kind, .string ⟨n.text.toArray⟩, .int .i64 n.num, .int .i64 n.typ.kind, .int .i64 n.typ.num, .string ⟨n.typ.name.toArray⟩, .slice sa sn sc, .slice ka kn kc] 28)) (by omega))
    have HR1 := Lib.hid hR1
    clear hg hp3 hof hkv hR1 HC m1 m2
    unfold ndV
    go_wp2_with fail
    refine (node_any 12 [n] _ _ _ HT.out).mono ?_
    rintro e w4 ⟨hg4, rfl, hr4⟩
    have HA4 := Lib.hid ((HA3.out.alloc (.cells #[.int .i64 n.kind, .string ⟨n.text.toArray⟩, .int .i64 n.num, .int .i64 n.typ.kind, .int .i64 n.typ.num, .string ⟨n.typ.name.toArray⟩, .slice sa sn sc, .slice ka kn kc] 28)).call hg4)
    have Z4 := Lib.hid (blk_call (blk_alloc Z3.out (.cells #[.int .i64 n.kind, .string ⟨n.text.toArray⟩, .int .i64 n.num, .int .i64 n.typ.kind, .int .i64 n.typ.num, .string ⟨n.typ.name.toArray⟩, .slice sa sn sc, .slice ka kn kc] 28)) hg4 (by simp))
    have hz4 := hg4.size
    simp at hz4
    have HR4 := Lib.hid (hr4.mono (S' := (Sx w.heap.size [w.heap.size])) (fun g hs _ => ⟨by omega, by simp; omega⟩) (fun _ _ _ => rfl))
    clear hg4 hr4 HT
    unfold ndV
    go_wp2_with fail
    have HA5 := Lib.hid (HA4.out.alloc (.cells #[.int .i64 (Nd.of 12 [n]).kind, .string ⟨(Nd.of 12 [n]).text.toArray⟩, .int .i64 (Nd.of 12 [n]).num, .int .i64 (Nd.of 12 [n]).typ.kind, .int .i64 (Nd.of 12 [n]).typ.num, .string ⟨(Nd.of 12 [n]).typ.name.toArray⟩, .slice none 0 0, .slice (some ⟨w3.heap.size, 0, none⟩) 1 1] 28))
    have Z5 := Lib.hid (blk_alloc Z4.out (.cells #[.int .i64 (Nd.of 12 [n]).kind, .string ⟨(Nd.of 12 [n]).text.toArray⟩, .int .i64 (Nd.of 12 [n]).num, .int .i64 (Nd.of 12 [n]).typ.kind, .int .i64 (Nd.of 12 [n]).typ.num, .string ⟨(Nd.of 12 [n]).typ.name.toArray⟩, .slice none 0 0, .slice (some ⟨w3.heap.size, 0, none⟩) 1 1] 28))
    have N5 := Lib.hid (blk_new w4 (.cells #[.int .i64 (Nd.of 12 [n]).kind, .string ⟨(Nd.of 12 [n]).text.toArray⟩, .int .i64 (Nd.of 12 [n]).num, .int .i64 (Nd.of 12 [n]).typ.kind, .int .i64 (Nd.of 12 [n]).typ.num, .string ⟨(Nd.of 12 [n]).typ.name.toArray⟩, .slice none 0 0, .slice (some ⟨w3.heap.size, 0, none⟩) 1 1] 28))
    have HR5 := Lib.hid (HR4.out.kept ((Kept.refl _ w4).alloc (.cells #[.int .i64 (Nd.of 12 [n]).kind, .string ⟨(Nd.of 12 [n]).text.toArray⟩, .int .i64 (Nd.of 12 [n]).num, .int .i64 (Nd.of 12 [n]).typ.kind, .int .i64 (Nd.of 12 [n]).typ.num, .string ⟨(Nd.of 12 [n]).typ.name.toArray⟩, .slice none 0 0, .slice (some ⟨w3.heap.size, 0, none⟩) 1 1] 28)))
    have hz5 : w4.heap.size < (w4.alloc (.cells #[.int .i64 (Nd.of 12 [n]).kind, .string ⟨(Nd.of 12 [n]).text.toArray⟩, .int .i64 (Nd.of 12 [n]).num, .int .i64 (Nd.of 12 [n]).typ.kind, .int .i64 (Nd.of 12 [n]).typ.num, .string ⟨(Nd.of 12 [n]).typ.name.toArray⟩, .slice none 0 0, .slice (some ⟨w3.heap.size, 0, none⟩) 1 1] 28)).heap.size := by simp
    generalize w4.alloc (.cells #[.int .i64 (Nd.of 12 [n]).kind, .string ⟨(Nd.of 12 [n]).text.toArray⟩, .int .i64 (Nd.of 12 [n]).num, .int .i64 (Nd.of 12 [n]).typ.kind, .int .i64 (Nd.of 12 [n]).typ.num, .string ⟨(Nd.of 12 [n]).typ.name.toArray⟩, .slice none 0 0, .slice (some ⟨w3.heap.size, 0, none⟩) 1 1] 28) = W5 at *
    have hwL : w.heap.size < w4.heap.size := by omega
    generalize w4.heap.size = L1 at *
    have hwL' : ¬ w.heap.size = L1 := by omega
    refine (want_any C _ i3 (d + 1) HA5.out.pr [59] (by simp)).mono ?_
    generalize hR6 : wantP [59] (C.toks.drop i3) = R6
    rcases R6 with ⟨u, r⟩ | ⟨p, er⟩
    rotate_left
    · rintro e w6 ⟨hg, i6, d6, rfl, hdd, hp6⟩
      exact at_leaves_err (HA5.out.turn hg hp6) (by rw [HU.out, HR1.out, PR.bind_ok, hR6]; rfl) hdd
    rintro e w6 ⟨hg, v6, i6, rfl, hv, hp6, hd6⟩
    have hv' : v6 = .tuple #[] := hv
    subst hv'
    have HA6 := Lib.hid (HA5.out.turn hg hp6)
    have Z6 := Lib.hid (blk_call Z5.out hg (by simp; omega))
    have HR7 := Lib.hid (HR5.out.kept ((Kept.refl _ _).call hg hbp))
    obtain ⟨_, e0, e1, e2, e3, e4, e5, e6, e7⟩ := cells8_of w6 w.heap.size _ _ _ _ _ _ _ _ _ Z6.out
    obtain ⟨⟨q0, q1, q2, q3, q4, q5, q6, q7⟩, _⟩ := cells8_of w6 L1 _ _ _ _ _ _ _ _ _ (blk_call N5.out hg (by simp; omega))
    have hz6 := hg.size
    have z5 : w.heap.size < w6.heap.size := by omega
    have z6 : L1 < w6.heap.size := by omega
    have HE := Lib.hid (show UN = .ok (Nd.of 12 [n]) r by rw [HU.out, HR1.out, PR.bind_ok, hR6]; rfl)
    have HDr := Lib.hid hd6
    clear hg hp6 hv hR6 hd6
    go_wp2_with fail
    have K := (Kept.refl (Sx w.heap.size [w.heap.size]) w6).set8 (b := w.heap.size) (by simp) (.int .i64 (Nd.of 12 [n]).kind) (.string ⟨(Nd.of 12 [n]).text.toArray⟩) (.int .i64 (Nd.of 12 [n]).num) (.int .i64 (Nd.of 12 [n]).typ.kind) (.int .i64 (Nd.of 12 [n]).typ.num) (.string ⟨(Nd.of 12 [n]).typ.name.toArray⟩) (.slice none 0 0) (.slice (some ⟨w3.heap.size, 0, none⟩) 1 1)
    refine at_leaves_ok (a := Nd.of 12 [n]) (HA6.out.set8 (Nat.le_refl _) (.int .i64 (Nd.of 12 [n]).kind) (.string ⟨(Nd.of 12 [n]).text.toArray⟩) (.int .i64 (Nd.of 12 [n]).num) (.int .i64 (Nd.of 12 [n]).typ.kind) (.int .i64 (Nd.of 12 [n]).typ.num) (.string ⟨(Nd.of 12 [n]).typ.name.toArray⟩) (.slice none 0 0) (.slice (some ⟨w3.heap.size, 0, none⟩) 1 1)) HE.out HDr.out fun w' hg => ⟨ndV (Nd.of 12 [n]) (.slice none 0 0) (.slice (some ⟨w3.heap.size, 0, none⟩) 1 1), ?_, ?_⟩
    · obtain ⟨⟨q0, q1, q2, q3, q4, q5, q6, q7⟩, _⟩ := cells8_of w' w.heap.size _ _ _ _ _ _ _ _ _ (blk_call (blk_put8 Z6.out (.int .i64 (Nd.of 12 [n]).kind) (.string ⟨(Nd.of 12 [n]).text.toArray⟩) (.int .i64 (Nd.of 12 [n]).num) (.int .i64 (Nd.of 12 [n]).typ.kind) (.int .i64 (Nd.of 12 [n]).typ.num) (.string ⟨(Nd.of 12 [n]).typ.name.toArray⟩) (.slice none 0 0) (.slice (some ⟨w3.heap.size, 0, none⟩) 1 1)) hg (by simp; omega))
      simp [results, Tryz.results89, go_sem, q0, q1, q2, q3, q4, q5, q6, q7]; rfl
    · exact ⟨_, _, rfl, RepOf.nil _ _, (HR7.out.kept (K.call hg hbp)).out (Nat.le_refl _)⟩
end Go.Proofs.YtkbplcfehllbjaaGreatDoor
/- One level up. -/
namespace Go.Proofs.YtkbplcfehllbjaaGreatDoor
open Go.RowKit
theorem lev_step (C : Ctx) (d : Nat) (R : Rec) (hd : d < 60) (L : Lev C (d + 1) R) (HD : RunsN 71 C (d + 1) (declP R)) : Lev C d ⟨exprF R, unaryF R, stmtF R, typenameF R⟩ :=
  ⟨expr_any C d R hd L, unary_any C d R hd L, stmt_any C d R hd L HD, typename_any C d R hd L, ⟨Shr.expr L.shr, Shr.unary L.shr, Shr.stmt L.shr, Shr.typename L.shr⟩⟩
/-- Every level, where decl keeps its contract over each. -/
theorem lev_at (C : Ctx) (HD : ∀ (d : Nat) (R : Rec), Lev C d R → RunsN 71 C d (declP R)) : ∀ (f d : Nat), d + f = 60 → Lev C d (recAt f) := by
  intro f
  induction f with
  | zero => intro d h; obtain rfl : d = 60 := by omega
            exact lev_stop C
  | succ f ih =>
    intro d h
    have L := ih (d + 1) (by omega)
    exact lev_step C d (recAt f) (by omega) L (HD (d + 1) (recAt f) L)
end Go.Proofs.YtkbplcfehllbjaaGreatDoor
/- slices.Backward over ints. -/
namespace Go.Proofs.YtkbplcfehllbjaaGreatDoor
open Go.RowKit
open Go.Shelf
attribute [local go_sem] Oper.semAt_some
def upto {α : Type} (f : Nat → α) (k : Nat) : List α := (List.range k).map f
theorem upto_succ {α : Type} (f : Nat → α) (k : Nat) : upto f (k + 1) = upto f k ++ [f k] := by simp [upto, List.range_succ]
theorem upto_length {α : Type} (f : Nat → α) (k : Nat) : (upto f k).length = k := by simp [upto]
/-- What comes in round k: the place from behind, and what stands there. -/
def backOf (zs : List Int) (k : Nat) : Nat × Int := (zs.length - 1 - k, zs[zs.length - 1 - k]?.getD 0)
theorem backOf_at (zs : List Int) {k m : Nat} (h : k + m + 1 = zs.length) : backOf zs k = (m, zs[m]?.getD 0) := by
  unfold backOf
  rw [show zs.length - 1 - k = m by omega]
/-- B has A's blocks that S names. -/
def KeepsOn (S : Nat → Prop) (A B : World) : Prop := A.heap.size ≤ B.heap.size ∧ ∀ g, S g → g < A.heap.size → B.heap[g]? = A.heap[g]?
theorem KeepsOn.refl (S : Nat → Prop) (A : World) : KeepsOn S A A := ⟨Nat.le_refl _, fun _ _ _ => rfl⟩
theorem KeepsOn.trans {S : Nat → Prop} {A B C : World} (h : KeepsOn S A B) (k : KeepsOn S B C) : KeepsOn S A C :=
  ⟨Nat.le_trans h.1 k.1, fun g hs hg => (k.2 g hs (Nat.lt_of_lt_of_le hg h.1)).trans (h.2 g hs hg)⟩
theorem KeepsOn.cell {S : Nat → Prop} {A B : World} (h : KeepsOn S A B) {p : Addr} {v : Value} (hs : S p.block) (hc : A.cell? p = some v) : B.cell? p = some v :=
  (World.cell?_of_block (h.2 _ hs (World.block_lt_of_cell? A p hc))).trans hc
theorem KeepsOn.putObj {S : Nat → Prop} {A : World} {l : Nat} (hl : ¬ S l) (o : Obj) : KeepsOn S A (A.putObj l o) :=
  ⟨by simp, fun g hs _ => World.putObj_heap_other (fun e => hl (e ▸ hs))⟩
set_option maxRecDepth 100000 in
set_option maxHeartbeats 2000000 in
theorem back1_in (F : Fence) (n : Nat) (hf : F.fn 101) (hro : F.round = none) (hn : 1 ≤ n) (l Bs b cap : Nat) (S : Nat → Prop) (zs : List Int) (hreach : zs.length * 8 ≤ 140737488351232) (hb : S b) (J Jx : List (Nat × Int) → World → Prop)
    (hY : ∀ pre x W, J pre W → pre.length < zs.length → YieldAt F (n - 1) Tryz.prog l #[.int .i64 (x.1 : Int), .int .i64 x.2] W fun e W' =>
      (e = .returned (.bool true) ∧ J (pre ++ [x]) W' ∧ KeepsOn S W W') ∨ (e = .returned (.bool false) ∧ Jx (pre ++ [x]) W'))
    (W : World) (hBs : W.cell? ⟨Bs, 0, none⟩ = some (.slice (some ⟨b, 0, none⟩) zs.length cap)) (hBl : S Bs) (hc : ∀ j, j < zs.length → W.cell? ⟨b, j, none⟩ = some (.int .i64 (zs[j]?.getD 0))) (h0 : J [] W) :
    CallsIn F n Tryz.prog 101 #[.func (.yield l) #[] #[], .pointer (some ⟨Bs, 0, none⟩)] W fun e W' => (∃ v, e = .returned v) ∧
      ((∃ ys, ys = upto (backOf zs) zs.length ∧ J ys W') ∨ (∃ pre, (∃ k, k ≤ zs.length ∧ pre = upto (backOf zs) k) ∧ Jx pre W')) := by
  have hw0 : IntKind.i64.wrap ((zs.length : Int) - 1) = (zs.length : Int) - 1 := by rw [IntKind.wrap_i64]; omega
  refine callsIn_of_wp Tryz.func101 rfl hf ?_ hro
  simp only [Tryz.ntmps101, List.size_toArray, List.length_cons, List.length_nil, Nat.reduceAdd, Nat.reduceSub, Array.replicate_succ, Array.replicate_zero, List.push_toArray, List.append_toArray, List.nil_append, List.cons_append]
  gi_wp2
  gi_loopw [3] (fun i wr => (∃ k m : Nat, k + m + 1 = zs.length ∧ i = .int .i64 (m : Int) ∧ J (upto (backOf zs) k) wr ∧ KeepsOn S W wr) ∨ (i = .int .i64 (-1) ∧ J (upto (backOf zs) zs.length) wr ∧ KeepsOn S W wr))
    (fun i _ => (intOf i + 1).toNat)
  case atStart =>
    by_cases hz : zs.length = 0
    · exact .inr ⟨by rw [hz]; rfl, by rw [hz]; exact h0, KeepsOn.refl _ _⟩
    · exact .inl ⟨0, zs.length - 1, by omega, by congr 1; omega, h0, KeepsOn.refl _ _⟩
  case round =>
    rcases hrel with ⟨k, m, hkm, rfl, hJs, hnx⟩ | ⟨rfl, hJs, hnx⟩
    · have hcx : wr.cell? ⟨b, m, none⟩ = some (.int .i64 (zs[m]?.getD 0)) := hnx.cell (p := ⟨b, m, none⟩) hb (hc m (by omega))
      have hbx := hnx.cell (p := ⟨Bs, 0, none⟩) hBl hBs
      obtain ⟨fn, tmps, assign, body, hy, hR⟩ := hY _ (m, zs[m]?.getD 0) wr hJs (by rw [upto_length]; omega)
      dsimp only at hy
      have g0 : decide ((0 : Int) ≤ (m : Int)) = true := by simp
      have hml : (m : Int) < (zs.length : Int) := by omega
      have hw1 : IntKind.i64.wrap ((m : Int) - 1) = (m : Int) - 1 := by rw [IntKind.wrap_i64]; omega
      gi_wp2
      refine hR.mono ?_
      rintro e W3 (⟨rfl, hJ3, hk3⟩ | ⟨rfl, hJx3⟩)
      · gi_wp2
        go_roundw
        case rel =>
          rw [← backOf_at zs hkm, ← upto_succ] at hJ3
          by_cases hm : m = 0
          · subst hm
            exact .inr ⟨rfl, by rw [show zs.length = k + 1 by omega]; exact hJ3, hnx.trans hk3⟩
          · exact .inl ⟨k + 1, m - 1, by omega, by congr 1; omega, hJ3, hnx.trans hk3⟩
        case measure => simp [intOf]
      · gi_wp2
        refine bodyPost_ret (results_none rfl _ _ _) rfl ?_
        rw [← backOf_at zs hkm, ← upto_succ] at hJx3
        exact ⟨⟨_, rfl⟩, .inr ⟨_, ⟨k + 1, by omega, rfl⟩, hJx3⟩⟩
    · gi_wp2
      go_end0
      exact ⟨⟨_, rfl⟩, .inl ⟨_, rfl, hJs⟩⟩
set_option maxRecDepth 100000 in
set_option maxHeartbeats 1000000 in
/-- .. at the nil slice: no round. -/
theorem back1_nil_in (F : Fence) (n : Nat) (hf : F.fn 101) (hro : F.round = none) (l Bs : Nat) (J : List (Nat × Int) → World → Prop) (W : World) (hBs : W.cell? ⟨Bs, 0, none⟩ = some (.slice none 0 0)) (h0 : J [] W) :
    CallsIn F n Tryz.prog 101 #[.func (.yield l) #[] #[], .pointer (some ⟨Bs, 0, none⟩)] W fun e W' => (∃ v, e = .returned v) ∧ J [] W' := by
  refine callsIn_of_wp Tryz.func101 rfl hf ?_ hro
  simp only [Tryz.ntmps101, List.size_toArray, List.length_cons, List.length_nil, Nat.reduceAdd, Nat.reduceSub, Array.replicate_succ, Array.replicate_zero, List.push_toArray, List.append_toArray, List.nil_append, List.cons_append]
  gi_wp2
  gi_loopw [3] (fun i wr => i = .int .i64 (-1) ∧ J [] wr) (fun _ _ => 0)
  case atStart => exact ⟨rfl, h0⟩
  case round =>
    obtain ⟨rfl, hJs⟩ := hrel
    gi_wp2
    go_end0
    exact ⟨⟨_, rfl⟩, hJs⟩
set_option maxHeartbeats 1000000 in
/-- slices.Backward: the slice value is boxed; the function value captures the box. -/
theorem backward_in (F : Fence) (n : Nat) (hf : F.fn 90) (hro : F.round = none) (a : Option Addr) (len cap : Nat) (w : World) :
    CallsIn F n Tryz.prog 90 #[.slice a len cap] w fun e w' => e = .returned (.func (.func 101) #[] #[.pointer (some ⟨w.heap.size, 0, none⟩)]) ∧ w' = w.alloc (.cells #[.slice a len cap] 45) := by
  refine callsIn_of_wp Tryz.func90 rfl hf ?_ hro
  simp only [Tryz.ntmps90, List.size_toArray, List.length_cons, List.length_nil, Nat.reduceAdd, Nat.reduceSub, Array.replicate_succ, Array.replicate_zero, List.push_toArray, List.append_toArray, List.nil_append, List.cons_append]
  gi_wp2
  go_ret
  exact ⟨rfl, rfl⟩
/-- The slice value holds the ints zs, in a block that S names; or it is nil and there are none. -/
def IntsAt (S : Nat → Prop) (W : World) (sv : Value) (zs : List Int) : Prop :=
  (sv = .slice none 0 0 ∧ zs = []) ∨ ∃ b cap, sv = .slice (some ⟨b, 0, none⟩) zs.length cap ∧ S b ∧ ∀ j, j < zs.length → W.cell? ⟨b, j, none⟩ = some (.int .i64 (zs[j]?.getD 0))
theorem IntsAt.kept {S : Nat → Prop} {A B : World} (h : KeepsOn S A B) {sv : Value} {zs : List Int} : IntsAt S A sv zs → IntsAt S B sv zs
  | .inl e => .inl e
  | .inr ⟨b, cap, e, hb, hc⟩ => .inr ⟨b, cap, e, hb, fun j hj => h.cell (p := ⟨b, j, none⟩) hb (hc j hj)⟩
/-- What slices.Backward hands back goes through all of zs, from behind; or through a part. -/
theorem backward_stops (F : Fence) (n : Nat) (hf : F.fn 101) (hro : F.round = none) (hn : 1 ≤ n) (Bs : Nat) (S : Nat → Prop) (sv : Value) (zs : List Int) (hreach : zs.length * 8 ≤ 140737488351232) (w : World) (hBs : S Bs)
    (hc : w.cell? ⟨Bs, 0, none⟩ = some sv) (hI : IntsAt S w sv zs) :
    SeqStopsK F n Tryz.prog 101 #[.pointer (some ⟨Bs, 0, none⟩)] (fun x : Nat × Int => #[Value.int .i64 (x.1 : Int), Value.int .i64 x.2]) (KeepsOn S) (fun ys => ys = upto (backOf zs) zs.length)
      (fun pre => ∃ k, k ≤ zs.length ∧ pre = upto (backOf zs) k) zs.length w := fun l J Jx W hW _ _ hY h0 => by
  have hK : KeepsOn S w W := ⟨hW.size, fun g _ hg => hW.block g hg⟩
  have hc' := hK.cell hBs hc
  rcases hI.kept hK with ⟨rfl, rfl⟩ | ⟨b, cap, rfl, hb, hcs⟩
  · exact (back1_nil_in F n hf hro l Bs J W hc' h0).mono fun e W' ⟨he, hj⟩ => ⟨he, .inl ⟨_, rfl, hj⟩⟩
  · exact back1_in F n hf hro hn l Bs b cap S zs hreach hb J Jx hY W hc' hBs hcs h0

end Go.Proofs.YtkbplcfehllbjaaGreatDoor
