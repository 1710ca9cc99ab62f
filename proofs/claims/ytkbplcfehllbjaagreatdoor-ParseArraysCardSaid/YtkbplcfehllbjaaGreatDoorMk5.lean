/- Merged: Q16, Q17, Q18, Q19. -/
import Derived.Test.YtkbplcfehllbjaaGreatDoorMk4
import Derived.Defers
import Derived.Deep.RegionLaw
import Derived.Deep.AppendLies
import Derived.Laws.AppendOwnNone
/- Deferring functions: the two ways out; expr. -/
namespace Go.Proofs.YtkbplcfehllbjaaGreatDoor
open Go.RowKit
theorem at_leaves_err {α : Type} {fn : Func} {tm : Array Value} {C : Ctx} {w wf : World} {i d d' : Nat} {r : PR α} {val : α → World → Value → Prop} {p : Nat} {er : Int} (h : At C w wf i d') (hr : r = .err p er) (hd : d + 1 ≤ d') :
    Leaves Tryz.prog fn tm (Out C w d r val) [{ target := .fn (.func 77) #[], args := #[C.p] }] (.panicking [{ v := failV p er, recovered := false }]) wf := by
  obtain ⟨d', rfl⟩ : ∃ k, d' = k + 1 := ⟨d' - 1, by omega⟩
  exact leaves_panic (by simp) h.pr fun w' hg hp => (h.turn hg hp).errOut hr
theorem at_leaves_ok {α : Type} {fn : Func} {tm : Array Value} {C : Ctx} {w wf : World} {i d : Nat} {r : PR α} {val : α → World → Value → Prop} {a : α} {rest : List T4} (h : At C w wf i (d + 1)) (hr : r = .ok a rest) (hrest : C.toks.drop i = rest)
    (hres : ∀ w', wf.grownBy w' (some C.bp) → ∃ v, (results fn tm).run Tryz.prog w' = .ok v w' ∧ val a w' v) :
    Leaves Tryz.prog fn tm (Out C w d r val) [{ target := .fn (.func 77) #[], args := #[C.p] }] .returning wf :=
  leaves_return h.pr fun w' hg hp => by
    obtain ⟨v, hv, hw⟩ := hres w' hg
    exact ⟨v, hv, (h.turn hg hp).okOut hr hw hrest⟩
theorem panicAs_normal {D : List Deferred} {fn : Func} {R : Ending → World → Prop} {Q : Exit → Act → World → Prop} {a : Act} {w : World} : PanicAs D fn R Q .normal a w = Q .normal a w := rfl
theorem panicAs_ret {D : List Deferred} {fn : Func} {R : Ending → World → Prop} {Q : Exit → Act → World → Prop} {a : Act} {w : World} : PanicAs D fn R Q .ret a w = Q .ret a w := rfl
set_option maxRecDepth 100000 in
set_option maxHeartbeats 2000000 in
theorem expr_any (C : Ctx) (d : Nat) (R : Rec) (hd : d < 60) (L : Lev C (d + 1) R) : RunsN 100 C d (exprF R) := by
  intro w i h
  have HP := Lib.hid h.at
  have hbp := lt_of_heap h.blk
  have HB := Lib.hid (binary_any C (d + 1) R L 9 1 (by omega) (by omega) (by omega))
  have HX := Lib.hid L.ex
  have hp : C.p = .pointer (some ⟨C.bp, 0, none⟩) := rfl
  clear L h
  unfold exprF
  go_enter_defers Tryz.func100, Tryz.ntmps100
  go_wp2_with fail
  have HA0 := Lib.hid (HP.out.alloc (.cells #[.int .i64 0, .string ⟨#[]⟩, .int .i64 0, .int .i64 0, .int .i64 0, .string ⟨#[]⟩, .slice none 0 0, .slice none 0 0] 28))
  have B0 := Lib.hid (blk_new w (.cells #[.int .i64 0, .string ⟨#[]⟩, .int .i64 0, .int .i64 0, .int .i64 0, .string ⟨#[]⟩, .slice none 0 0, .slice none 0 0] 28))
  refine (enter_yes C _ i d HA0.out.pr hd).mono ?_
  rintro e w1 ⟨rfl, hg, hp1⟩
  have HA1 := Lib.hid (HA0.out.turn hg hp1)
  have B1 := Lib.hid (blk_call B0.out hg (by simp; omega))
  have hz1 := hg.size
  simp at hz1
  have hbp1 : C.bp < w1.heap.size := by omega
  clear hg hp1
  go_wp2_with fail
  have HC := Lib.hid (HB.out w1 i HA1.out.pr)
  generalize hR1 : binP R 9 1 (C.toks.drop i) = R1 at HC
  refine HC.out.mono ?_
  cases R1 with
  | err p er =>
    rintro e w2 ⟨hg, i1, d1, rfl, hdd, hp1⟩
    exact at_leaves_err (HA1.out.turn hg hp1) (by rw [hR1]; rfl) hdd
  | ok n r =>
    rintro e w2 ⟨hg, v1, i1, rfl, ⟨ofv, kv, rfl, hof, hkv⟩, hp1, rfl⟩
    obtain ⟨sa, sn, sc, rfl⟩ := hof.isSlice
    obtain ⟨ka, kn, kc, rfl⟩ := hkv.isSlice
    have HA2 := Lib.hid (HA1.out.turn hg hp1)
    have B2 := Lib.hid (blk_call B1.out hg (by simp; omega))
    have hz2 := hg.size
    have hi1 := hp1.lt
    have HO2 := Lib.hid (hof.mono (S' := Sx w.heap.size [w.heap.size, w2.heap.size]) (fun g hs hl => ⟨by omega, by simp; omega⟩) (fun _ _ _ => rfl))
    have HK2 := Lib.hid (hkv.mono (S' := Sx w.heap.size [w.heap.size, w2.heap.size]) (fun g hs hl => ⟨by omega, by simp; omega⟩) (fun _ _ _ => rfl))
    have HR1 := Lib.hid hR1
    clear hg hp1 hof hkv hR1 HC
    unfold ndV
    go_wp2_with fail
    have z2 : w.heap.size < w2.heap.size := by omega
    have N2 := Lib.hid (blk_new w2 (.cells #[.int .i64 n.kind, .string ⟨n.text.toArray⟩, .int .i64 n.num, .int .i64 n.typ.kind, .int .i64 n.typ.num, .string ⟨n.typ.name.toArray⟩, .slice sa sn sc, .slice ka kn kc] 28))
    have B3 := Lib.hid (blk_alloc B2.out (.cells #[.int .i64 n.kind, .string ⟨n.text.toArray⟩, .int .i64 n.num, .int .i64 n.typ.kind, .int .i64 n.typ.num, .string ⟨n.typ.name.toArray⟩, .slice sa sn sc, .slice ka kn kc] 28))
    have HA3 := Lib.hid (HA2.out.alloc (.cells #[.int .i64 n.kind, .string ⟨n.text.toArray⟩, .int .i64 n.num, .int .i64 n.typ.kind, .int .i64 n.typ.num, .string ⟨n.typ.name.toArray⟩, .slice sa sn sc, .slice ka kn kc] 28))
    have HO3 := Lib.hid (HO2.out.kept ((Kept.refl _ _).alloc (.cells #[.int .i64 n.kind, .string ⟨n.text.toArray⟩, .int .i64 n.num, .int .i64 n.typ.kind, .int .i64 n.typ.num, .string ⟨n.typ.name.toArray⟩, .slice sa sn sc, .slice ka kn kc] 28)))
    have HK3 := Lib.hid (HK2.out.kept ((Kept.refl _ _).alloc (.cells #[.int .i64 n.kind, .string ⟨n.text.toArray⟩, .int .i64 n.num, .int .i64 n.typ.kind, .int .i64 n.typ.num, .string ⟨n.typ.name.toArray⟩, .slice sa sn sc, .slice ka kn kc] 28)))
    have hz3 : w2.heap.size < (w2.alloc (.cells #[.int .i64 n.kind, .string ⟨n.text.toArray⟩, .int .i64 n.num, .int .i64 n.typ.kind, .int .i64 n.typ.num, .string ⟨n.typ.name.toArray⟩, .slice sa sn sc, .slice ka kn kc] 28)).heap.size := by simp
    generalize w2.alloc (.cells #[.int .i64 n.kind, .string ⟨n.text.toArray⟩, .int .i64 n.num, .int .i64 n.typ.kind, .int .i64 n.typ.num, .string ⟨n.typ.name.toArray⟩, .slice sa sn sc, .slice ka kn kc] 28) = W3 at *
    generalize w2.heap.size = L1 at *
    clear HA0 HA1 HA2 B0 B1 B2 HO2 HK2 HB HP
    cases hs : isP [61] (C.toks.drop i1) with
    | false =>
      refine (skip_no C _ i1 (d + 1) HA3.out.pr [61] hs).mono ?_
      rintro e w4 ⟨rfl, hg⟩
      have HA4 := Lib.hid (HA3.out.call hg)
      have K4 := Lib.hid ((Kept.refl (Sx w.heap.size [w.heap.size, L1]) W3).call0 hg)
      have B4 := Lib.hid (blk_call B3.out hg (by simp))
      obtain ⟨⟨q0, q1, q2, q3, q4, q5, q6, q7⟩, _⟩ := cells8_of w4 L1 _ _ _ _ _ _ _ _ _ (blk_call N2.out hg (by simp))
      obtain ⟨_, e0, e1, e2, e3, e4, e5, e6, e7⟩ := cells8_of w4 w.heap.size _ _ _ _ _ _ _ _ _ B4.out
      have hz4 := hg.size
      have z4 : w.heap.size < w4.heap.size := by omega
      have z5 : L1 < w4.heap.size := by omega
      have z6 : ¬ w.heap.size = L1 := by omega
      clear hg
      have hs' := Lib.hid hs
      clear hs
      go_wp2_with fail
      refine at_leaves_ok (a := n) (HA4.out.set8 (Nat.le_refl _) _ _ _ _ _ _ _ _) (by rw [HR1.out, PR.bind_ok, if_neg (by rw [hs'.out]; simp)]) rfl fun w' hg => ⟨ndV n (.slice sa sn sc) (.slice ka kn kc), ?_, ?_⟩
      · obtain ⟨⟨q0, q1, q2, q3, q4, q5, q6, q7⟩, _⟩ := cells8_of w' w.heap.size _ _ _ _ _ _ _ _ _ (blk_call (blk_put8 B4.out _ _ _ _ _ _ _ _) hg (by simp; omega))
        simp [results, Tryz.results100, go_sem, q0, q1, q2, q3, q4, q5, q6, q7]; rfl
      · have K := (K4.out.set8 (b := w.heap.size) (by simp) (.int .i64 n.kind) (.string ⟨n.text.toArray⟩) (.int .i64 n.num) (.int .i64 n.typ.kind) (.int .i64 n.typ.num) (.string ⟨n.typ.name.toArray⟩) (.slice sa sn sc) (.slice ka kn kc)).call hg hbp
        exact ⟨_, _, rfl, (HO3.out.kept K).out (Nat.le_refl _), (HK3.out.kept K).out (Nat.le_refl _)⟩
    | true =>
      refine (skip_yes C _ i1 (d + 1) HA3.out.pr [61] (by simp) hs).mono ?_
      rintro e w4 ⟨rfl, hg, hp4⟩
      have HA4 := Lib.hid (HA3.out.turn hg hp4)
      have K4 := Lib.hid ((Kept.refl (Sx w.heap.size [w.heap.size, L1]) W3).call hg hbp)
      have HO4 := Lib.hid (HO3.out.kept K4.out)
      have HK4 := Lib.hid (HK3.out.kept K4.out)
      have B4 := Lib.hid (blk_call B3.out hg (by simp; omega))
      have N4 := Lib.hid (blk_call N2.out hg (by simp; omega))
      obtain ⟨⟨q0, q1, q2, q3, q4, q5, q6, q7⟩, _⟩ := cells8_of w4 L1 _ _ _ _ _ _ _ _ _ N4.out
      have hz4 := hg.size
      have z4 : w.heap.size < w4.heap.size := by omega
      have z5 : L1 < w4.heap.size := by omega
      have z6 : ¬ w.heap.size = L1 := by omega
      have hs' := Lib.hid hs
      clear hg hp4 hs
      have HN : Hid (∀ w, Pr C w (i1 + 1) (d + 1) → Calls Tryz.prog 100 #[C.p] w (Out C w (d + 1) (R.expr (C.toks.drop (i1 + 1))) (fun n => ndVal n w))) := Lib.hid (fun w h => HX.out w (i1 + 1) h)
      have HE : Hid ((binP R 9 1 (C.toks.drop i)).bind (fun n r => if isP [61] r = true then (R.expr r.tail).bind fun m r2 => .ok (Nd.of 5 [n, m]) r2 else .ok n r) = (R.expr (C.toks.drop (i1 + 1))).bind fun m r2 => .ok (Nd.of 5 [n, m]) r2) := Lib.hid (by rw [HR1.out, PR.bind_ok, if_pos hs'.out, tl_at])
      clear HX HA3 K4 HO3 HK3 B3 N2 hz3 hs' HR1
      generalize R.expr (C.toks.drop (i1 + 1)) = R0 at *
      go_wp2_with fail
      refine wp_panicAs (D := [{ target := .fn (.func 77) #[], args := #[C.p] }]) (fn := Tryz.f100) (R := Out C w d _ _) (fun ch a w h => h) ?_
      go_region_with (first
        | (go_at_call 100; refine (HN.out _ HA4.out.drew.pr).mono ?_; rcases R0 with ⟨m2, r⟩ | ⟨p, er⟩; rotate_left; (rintro e wc ⟨hg, i2, d2, rfl, hdd, hp1⟩; exact ⟨rfl, fun tm => at_leaves_err (HA4.out.drew.turn hg hp1) (by rw [HE.out]; rfl) hdd⟩); rintro e wc ⟨hg, v1, i2, rfl, ⟨ofm, km, rfl, hof, hkm⟩, hp1, hd1⟩; obtain ⟨oa, on, oc, rfl⟩ := hof.isSlice; obtain ⟨ma, mn, mc, rfl⟩ := hkm.isSlice; have hz8 := hg.size; simp at hz8; have z8 : w.heap.size < wc.heap.size := (by omega); have HF := Lib.hid (And.intro (HA4.out.drew.turn hg hp1) (And.intro hd1 (And.intro ((Kept.refl (Sx w.heap.size [w.heap.size, L1]) w4).drew.call hg hbp) (And.intro (blk_call B4.out (undrew hg) (by simp; omega)) (RepK.two (HO4.out.kept (((Kept.refl (Sx w.heap.size [w.heap.size, L1]) w4).drew.call hg hbp).alloc (.cells #[.int .i64 n.kind, .string ⟨n.text.toArray⟩, .int .i64 n.num, .int .i64 n.typ.kind, .int .i64 n.typ.num, .string ⟨n.typ.name.toArray⟩, .slice sa sn sc, .slice ka kn kc, .int .i64 m2.kind, .string ⟨m2.text.toArray⟩, .int .i64 m2.num, .int .i64 m2.typ.kind, .int .i64 m2.typ.num, .string ⟨m2.typ.name.toArray⟩, .slice oa on oc, .slice ma mn mc] 28 (0, 0)))) (HK4.out.kept (((Kept.refl (Sx w.heap.size [w.heap.size, L1]) w4).drew.call hg hbp).alloc (.cells #[.int .i64 n.kind, .string ⟨n.text.toArray⟩, .int .i64 n.num, .int .i64 n.typ.kind, .int .i64 n.typ.num, .string ⟨n.typ.name.toArray⟩, .slice sa sn sc, .slice ka kn kc, .int .i64 m2.kind, .string ⟨m2.text.toArray⟩, .int .i64 m2.num, .int .i64 m2.typ.kind, .int .i64 m2.typ.num, .string ⟨m2.typ.name.toArray⟩, .slice oa on oc, .slice ma mn mc] 28 (0, 0)))) ((hof.into (X := [w.heap.size, L1]) (B := w.heap.size) (by simp; omega) (by simp; omega)).kept ((Kept.refl _ _).alloc (.cells #[.int .i64 n.kind, .string ⟨n.text.toArray⟩, .int .i64 n.num, .int .i64 n.typ.kind, .int .i64 n.typ.num, .string ⟨n.typ.name.toArray⟩, .slice sa sn sc, .slice ka kn kc, .int .i64 m2.kind, .string ⟨m2.text.toArray⟩, .int .i64 m2.num, .int .i64 m2.typ.kind, .int .i64 m2.typ.num, .string ⟨m2.typ.name.toArray⟩, .slice oa on oc, .slice ma mn mc] 28 (0, 0)))) ((hkm.into (X := [w.heap.size, L1]) (B := w.heap.size) (by simp; omega) (by simp; omega)).kept ((Kept.refl _ _).alloc (.cells #[.int .i64 n.kind, .string ⟨n.text.toArray⟩, .int .i64 n.num, .int .i64 n.typ.kind, .int .i64 n.typ.num, .string ⟨n.typ.name.toArray⟩, .slice sa sn sc, .slice ka kn kc, .int .i64 m2.kind, .string ⟨m2.text.toArray⟩, .int .i64 m2.num, .int .i64 m2.typ.kind, .int .i64 m2.typ.num, .string ⟨m2.typ.name.toArray⟩, .slice oa on oc, .slice ma mn mc] 28 (0, 0)))) (blk_new wc (.cells #[.int .i64 n.kind, .string ⟨n.text.toArray⟩, .int .i64 n.num, .int .i64 n.typ.kind, .int .i64 n.typ.num, .string ⟨n.typ.name.toArray⟩, .slice sa sn sc, .slice ka kn kc, .int .i64 m2.kind, .string ⟨m2.text.toArray⟩, .int .i64 m2.num, .int .i64 m2.typ.kind, .int .i64 m2.typ.num, .string ⟨m2.typ.name.toArray⟩, .slice oa on oc, .slice ma mn mc] 28 (0, 0))) ⟨by omega, by simp; omega⟩))))); obtain ⟨⟨p0, p1, p2, p3, p4, p5, p6, p7⟩, _⟩ := cells8_of wc L1 _ _ _ _ _ _ _ _ _ (blk_call N4.out (undrew hg) (by simp; omega)); have hz9 : L1 < wc.heap.size := (by omega); clear hg hp1 hof hkm; unfold ndV)
        | (go_at_call 95; refine (node_any 5 [n, m2] _ _ _ HF.out.2.2.2.2).mono ?_; rintro e wd ⟨hgd, rfl, hrd⟩; have HG := Lib.hid (And.intro hgd hrd); obtain ⟨_, e0, e1, e2, e3, e4, e5, e6, e7⟩ := cells8_of wd w.heap.size _ _ _ _ _ _ _ _ _ (blk_call (blk_alloc HF.out.2.2.2.1 _) hgd (by simp)); have hz7 := hgd.size; simp at hz7; have z9 : w.heap.size < wd.heap.size := (by omega); clear hgd hrd; unfold ndV))
      all_goals
        rw [panicAs_normal]
        go_wp2_with fail
        refine at_leaves_ok (a := Nd.of 5 [n, m2]) (((HF.out.1.alloc _).call HG.out.1).set8 (Nat.le_refl _) _ _ _ _ _ _ _ _) (by rw [HE.out]; rfl) HF.out.2.1 fun w' hg => ⟨ndV (Nd.of 5 [n, m2]) (.slice none 0 0) (.slice (some ⟨wc.heap.size, 0, none⟩) 2 2), ?_, ?_⟩
        · obtain ⟨⟨q0, q1, q2, q3, q4, q5, q6, q7⟩, _⟩ := cells8_of w' w.heap.size _ _ _ _ _ _ _ _ _ (blk_call (blk_put8 (blk_call (blk_alloc HF.out.2.2.2.1 _) HG.out.1 (by simp)) _ _ _ _ _ _ _ _) hg (by simp; omega))
          simp [results, Tryz.results100, go_sem, q0, q1, q2, q3, q4, q5, q6, q7]; rfl
        · have K := ((Kept.refl (Sx w.heap.size [w.heap.size, L1]) wd).set8 (b := w.heap.size) (by simp) (.int .i64 (Nd.of 5 [n, m2]).kind) (.string ⟨(Nd.of 5 [n, m2]).text.toArray⟩) (.int .i64 (Nd.of 5 [n, m2]).num) (.int .i64 (Nd.of 5 [n, m2]).typ.kind) (.int .i64 (Nd.of 5 [n, m2]).typ.num) (.string ⟨(Nd.of 5 [n, m2]).typ.name.toArray⟩) (.slice none 0 0) (.slice (some ⟨wc.heap.size, 0, none⟩) 2 2)).call hg hbp
          exact ⟨_, _, rfl, RepOf.nil _ _, (HG.out.2.kept K).out (Nat.le_refl _)⟩
end Go.Proofs.YtkbplcfehllbjaaGreatDoor
/- Where nothing more may be nested. -/
namespace Go.Proofs.YtkbplcfehllbjaaGreatDoor
open Go.RowKit
theorem leaves_none {fn : Func} {tm : Array Value} {R : Ending → World → Prop} {ch : List PanicEntry} {w : World} (h : R (.panicked ch) w) : Leaves Tryz.prog fn tm R [] (.panicking ch) w := h
set_option maxRecDepth 100000 in
theorem expr_stop (C : Ctx) : RunsN 100 C 60 (fun ts => failP ts 4) := by
  intro w i h
  have HP := Lib.hid h.at
  have hp : C.p = .pointer (some ⟨C.bp, 0, none⟩) := rfl
  go_enter_defers Tryz.func100, Tryz.ntmps100
  go_wp2_with fail
  refine (enter_no C _ i (HP.out.alloc (.cells #[.int .i64 0, .string ⟨#[]⟩, .int .i64 0, .int .i64 0, .int .i64 0, .string ⟨#[]⟩, .slice none 0 0, .slice none 0 0] 28)).pr).mono ?_
  rintro e w' ⟨rfl, hg⟩
  exact leaves_none (fn := Tryz.f100) (tm := #[]) (((HP.out.alloc (.cells #[.int .i64 0, .string ⟨#[]⟩, .int .i64 0, .int .i64 0, .int .i64 0, .string ⟨#[]⟩, .slice none 0 0, .slice none 0 0] 28)).call hg).errOut rfl)
set_option maxRecDepth 100000 in
theorem unary_stop (C : Ctx) : RunsN 108 C 60 (fun ts => failP ts 4) := by
  intro w i h
  have HP := Lib.hid h.at
  have hp : C.p = .pointer (some ⟨C.bp, 0, none⟩) := rfl
  go_enter_defers Tryz.func108, Tryz.ntmps108
  go_wp2_with fail
  refine (enter_no C _ i (HP.out.alloc (.cells #[.int .i64 0, .string ⟨#[]⟩, .int .i64 0, .int .i64 0, .int .i64 0, .string ⟨#[]⟩, .slice none 0 0, .slice none 0 0] 28)).pr).mono ?_
  rintro e w' ⟨rfl, hg⟩
  exact leaves_none (fn := Tryz.f100) (tm := #[]) (((HP.out.alloc (.cells #[.int .i64 0, .string ⟨#[]⟩, .int .i64 0, .int .i64 0, .int .i64 0, .string ⟨#[]⟩, .slice none 0 0, .slice none 0 0] 28)).call hg).errOut rfl)
set_option maxRecDepth 100000 in
theorem stmt_stop (C : Ctx) : RunsN 89 C 60 (fun ts => failP ts 4) := by
  intro w i h
  have HP := Lib.hid h.at
  have hp : C.p = .pointer (some ⟨C.bp, 0, none⟩) := rfl
  go_enter_defers Tryz.func89, Tryz.ntmps89
  go_wp2_with fail
  refine (enter_no C _ i (HP.out.alloc (.cells #[.int .i64 0, .string ⟨#[]⟩, .int .i64 0, .int .i64 0, .int .i64 0, .string ⟨#[]⟩, .slice none 0 0, .slice none 0 0] 28)).pr).mono ?_
  rintro e w' ⟨rfl, hg⟩
  exact leaves_none (fn := Tryz.f100) (tm := #[]) (((HP.out.alloc (.cells #[.int .i64 0, .string ⟨#[]⟩, .int .i64 0, .int .i64 0, .int .i64 0, .string ⟨#[]⟩, .slice none 0 0, .slice none 0 0] 28)).call hg).errOut rfl)
set_option maxRecDepth 100000 in
theorem typename_stop (C : Ctx) : RunsT 92 C 60 (fun ts => failP ts 4) := by
  intro w i h
  have HP := Lib.hid h.at
  have hp : C.p = .pointer (some ⟨C.bp, 0, none⟩) := rfl
  go_enter_defers Tryz.func92, Tryz.ntmps92
  go_wp2_with fail
  refine (enter_no C _ i (HP.out.alloc (.cells #[.int .i64 0, .int .i64 0, .string ⟨#[]⟩, .slice none 0 0] 25)).pr).mono ?_
  rintro e w' ⟨rfl, hg⟩
  exact leaves_none (fn := Tryz.f100) (tm := #[]) (((HP.out.alloc (.cells #[.int .i64 0, .int .i64 0, .string ⟨#[]⟩, .slice none 0 0] 25)).call hg).errOut rfl)
theorem lev_stop (C : Ctx) : Lev C 60 (recAt 0) := ⟨expr_stop C, unary_stop C, stmt_stop C, typename_stop C, RecShr.at 0⟩
end Go.Proofs.YtkbplcfehllbjaaGreatDoor
/- term. -/
namespace Go.Proofs.YtkbplcfehllbjaaGreatDoor
open Go.RowKit
set_option maxRecDepth 100000 in
set_option maxHeartbeats 2000000 in
theorem term_any (C : Ctx) (d : Nat) (R : Rec) (L : Lev C d R) : RunsN 119 C d (termP R) := by
  intro w i h
  have HP := Lib.hid h.at
  have hbp := lt_of_heap h.blk
  have hlen := h.len
  have HL := Lib.hid L.ex
  have hp : C.p = .pointer (some ⟨C.bp, 0, none⟩) := rfl
  have HT := Lib.hid (fun w' (h' : Pr C w' i d) => token_any C w' i d h' _ (hd_at _ _ h.lt))
  have hfin := h.fin i _ (hd_at _ _ h.lt)
  have HW := Lib.hid (fun w' (h' : Pr C w' i d) => want_any C w' i d h' [40] (by simp))
  clear L
  unfold termP
  generalize hdT (C.toks.drop i) = t at *
  rw [tl_at]
  by_cases k1 : t.kind = 1
  · rw [if_pos k1]
    have hl : i + 1 < C.toks.length := hfin (.inr (by omega))
    have hb1 : (t.kind == 1) = true := by simp [k1]
    have hb2 : decide (t.kind = 1) = true := by simp [k1]
    clear h hfin HW HL
    go_enter Tryz.func119, Tryz.ntmps119
    go_wp2_with fail
    refine (HT.out _ (HP.out.alloc (.cells #[.int .i64 0, .string ⟨#[]⟩, .int .i64 0, .int .i64 0, .int .i64 0, .string ⟨#[]⟩, .slice none 0 0, .slice none 0 0] 28)).pr).mono ?_
    rintro e w1 ⟨rfl, hg⟩
    have HA1 := Lib.hid ((HP.out.alloc (.cells #[.int .i64 0, .string ⟨#[]⟩, .int .i64 0, .int .i64 0, .int .i64 0, .string ⟨#[]⟩, .slice none 0 0, .slice none 0 0] 28)).call hg)
    obtain ⟨_, c1, _, _, _, f1, _, _⟩ := cells4_of w1 C.bp _ _ _ _ _ HA1.out.pr.blk
    obtain ⟨⟨r0, r1, r2, r3, r4, r5, r6, r7⟩, e0, e1, e2, e3, e4, e5, e6, e7⟩ := cells8_of w1 w.heap.size _ _ _ _ _ _ _ _ _ (new_is hg (by simp))
    have B1 := Lib.hid (new_is hg (by simp))
    have hz := hg.size
    simp at hz
    have z1 : C.bp < w1.heap.size := by omega
    have z2 : w.heap.size < w1.heap.size := by omega
    have n1 : ¬ w.heap.size = C.bp := by omega
    have n2 : ¬ C.bp = w.heap.size := by omega
    clear hg
    unfold tkV
    go_wp2_with fail
    refine bodyPost_ret (v := ndV (.mk 2 t.text 0 Ty.none []) (.slice none 0 0) (.slice none 0 0)) (by simp [results, Tryz.results119, go_sem, z2, r0, r1, r2, r3, r4, r5, r6, r7]; rfl) rfl ?_
    exact (((HA1.out.next hl (v := (i : Int) + 1) (by omega)).set8 (Nat.le_refl _) _ _ _ _ _ _ _ _).alloc _).okOut rfl ⟨_, _, rfl, RepOf.nil _ _, RepK.nil _ _⟩ rfl
  · rw [if_neg k1]
    by_cases k3 : t.kind = 3
    · rw [if_pos k3]
      have hl : i + 1 < C.toks.length := hfin (.inr (by omega))
      have hb1 : (t.kind == 1) = false := by simp [k3]
      have hb2 : (t.kind == 3) = true := by simp [k3]
      clear k1
      clear h hfin HW HL
      go_enter Tryz.func119, Tryz.ntmps119
      go_wp2_with fail
      refine (HT.out _ (HP.out.alloc (.cells #[.int .i64 0, .string ⟨#[]⟩, .int .i64 0, .int .i64 0, .int .i64 0, .string ⟨#[]⟩, .slice none 0 0, .slice none 0 0] 28)).pr).mono ?_
      rintro e w1 ⟨rfl, hg⟩
      have HA1 := Lib.hid ((HP.out.alloc (.cells #[.int .i64 0, .string ⟨#[]⟩, .int .i64 0, .int .i64 0, .int .i64 0, .string ⟨#[]⟩, .slice none 0 0, .slice none 0 0] 28)).call hg)
      obtain ⟨_, c1, _, _, _, f1, _, _⟩ := cells4_of w1 C.bp _ _ _ _ _ HA1.out.pr.blk
      obtain ⟨⟨r0, r1, r2, r3, r4, r5, r6, r7⟩, e0, e1, e2, e3, e4, e5, e6, e7⟩ := cells8_of w1 w.heap.size _ _ _ _ _ _ _ _ _ (new_is hg (by simp))
      have B1 := Lib.hid (new_is hg (by simp))
      have hz := hg.size
      simp at hz
      have z1 : C.bp < w1.heap.size := by omega
      have z2 : w.heap.size < w1.heap.size := by omega
      have n1 : ¬ w.heap.size = C.bp := by omega
      have n2 : ¬ C.bp = w.heap.size := by omega
      clear hg
      unfold tkV
      go_wp2_with fail
      refine bodyPost_ret (v := ndV (.mk 1 [] t.val Ty.none []) (.slice none 0 0) (.slice none 0 0)) (by simp [results, Tryz.results119, go_sem, z2, r0, r1, r2, r3, r4, r5, r6, r7]; rfl) rfl ?_
      exact (((HA1.out.next hl (v := (i : Int) + 1) (by omega)).set8 (Nat.le_refl _) _ _ _ _ _ _ _ _).alloc _).okOut rfl ⟨_, _, rfl, RepOf.nil _ _, RepK.nil _ _⟩ rfl
    · rw [if_neg k3]
      have hb1 : (t.kind == 1) = false := by simp [k1]
      have hb2 : (t.kind == 3) = false := by simp [k3]
      generalize wantP [40] (C.toks.drop i) = R0 at *
      clear h hfin
      go_enter Tryz.func119, Tryz.ntmps119
      go_wp2_with fail
      refine (HT.out _ (HP.out.alloc (.cells #[.int .i64 0, .string ⟨#[]⟩, .int .i64 0, .int .i64 0, .int .i64 0, .string ⟨#[]⟩, .slice none 0 0, .slice none 0 0] 28)).pr).mono ?_
      rintro e w1 ⟨rfl, hg⟩
      have HA1 := Lib.hid ((HP.out.alloc (.cells #[.int .i64 0, .string ⟨#[]⟩, .int .i64 0, .int .i64 0, .int .i64 0, .string ⟨#[]⟩, .slice none 0 0, .slice none 0 0] 28)).call hg)
      have B1 := Lib.hid (new_is hg (by simp))
      have hz := hg.size
      simp at hz
      clear hg
      unfold tkV
      go_wp2_with fail
      have HA0 := Lib.hid (HA1.out.alloc (.cells #[.int .i64 t.kind, .int .i64 t.pos, .string ⟨t.text.toArray⟩, .int .i64 t.val] 49))
      have B0 := Lib.hid (blk_alloc B1.out (.cells #[.int .i64 t.kind, .int .i64 t.pos, .string ⟨t.text.toArray⟩, .int .i64 t.val] 49))
      have hz0 : w.heap.size < (w1.alloc (.cells #[.int .i64 t.kind, .int .i64 t.pos, .string ⟨t.text.toArray⟩, .int .i64 t.val] 49)).heap.size := by simp; omega
      have z1 : C.bp < (w1.alloc (.cells #[.int .i64 t.kind, .int .i64 t.pos, .string ⟨t.text.toArray⟩, .int .i64 t.val] 49)).heap.size := by omega
      generalize w1.alloc (.cells #[.int .i64 t.kind, .int .i64 t.pos, .string ⟨t.text.toArray⟩, .int .i64 t.val] 49) = W at *
      refine (HW.out _ HA0.out.pr).mono ?_
      cases R0 with
      | err p er =>
        rintro e w1 ⟨hg, i1, d1, rfl, hdd, hp⟩
        exact ⟨rfl, (HA0.out.turn hg hp).errOut rfl⟩
      | ok u r =>
        rintro e w1 ⟨hg, v1, i1, rfl, hv, hp, hd⟩
        have hv' : v1 = .tuple #[] := hv
        subst hv'
        subst hd
        have HA1 := Lib.hid (HA0.out.turn hg hp)
        have B1 := Lib.hid (blk_call B0.out hg (by simp; omega))
        have hz1 := hg.size
        try simp at hz1
        clear hg hp hv HW
        go_wp2_with fail
        have HC := Lib.hid (HL.out w1 i1 HA1.out.pr)
        generalize hR1 : R.expr (C.toks.drop i1) = R1 at HC
        refine HC.out.mono ?_
        cases R1 with
        | err p er =>
          rintro e w2 ⟨hg, i2, d2, rfl, hdd, hp⟩
          exact ⟨rfl, (HA1.out.turn hg hp).errOut (by rw [PR.bind_ok, hR1]; rfl)⟩
        | ok a r =>
          rintro e w2 ⟨hg, v2, i2, rfl, ⟨ofv, kv, rfl, hof, hkv⟩, hp, hd⟩
          obtain ⟨sa, sn, sc, rfl⟩ := hof.isSlice
          obtain ⟨ka, kn, kc, rfl⟩ := hkv.isSlice
          have HA2 := Lib.hid (HA1.out.turn hg hp)
          have B2 := Lib.hid (blk_call B1.out hg (by simp; omega))
          have HO2 := Lib.hid (hof.into (B := w.heap.size) (X := [w.heap.size]) (by omega) (by simp; omega))
          have HK2 := Lib.hid (hkv.into (B := w.heap.size) (X := [w.heap.size]) (by omega) (by simp; omega))
          have hz2 := hg.size
          clear hg hp hof hkv
          unfold ndV
          go_wp2_with fail
          have HA3 := Lib.hid (HA2.out.alloc (.cells #[.int .i64 a.kind, .string ⟨a.text.toArray⟩, .int .i64 a.num, .int .i64 a.typ.kind, .int .i64 a.typ.num, .string ⟨a.typ.name.toArray⟩, .slice sa sn sc, .slice ka kn kc] 28))
          have B3 := Lib.hid (blk_alloc B2.out (.cells #[.int .i64 a.kind, .string ⟨a.text.toArray⟩, .int .i64 a.num, .int .i64 a.typ.kind, .int .i64 a.typ.num, .string ⟨a.typ.name.toArray⟩, .slice sa sn sc, .slice ka kn kc] 28))
          have N3 := Lib.hid (blk_new w2 (.cells #[.int .i64 a.kind, .string ⟨a.text.toArray⟩, .int .i64 a.num, .int .i64 a.typ.kind, .int .i64 a.typ.num, .string ⟨a.typ.name.toArray⟩, .slice sa sn sc, .slice ka kn kc] 28))
          refine (want_any C _ i2 d HA3.out.pr [41] (by simp)).mono ?_
          generalize hR3 : wantP [41] (C.toks.drop i2) = R3
          cases R3 with
          | err p er =>
            rintro e w4 ⟨hg, i4, d4, rfl, hdd, hp⟩
            exact ⟨rfl, (HA3.out.turn hg hp).errOut (by rw [PR.bind_ok, hR1, PR.bind_ok, ← hd, hR3]; rfl)⟩
          | ok u r =>
            rintro e w4 ⟨hg, v4, i4, rfl, hv, hp, hd4⟩
            have hv' : v4 = .tuple #[] := hv
            subst hv'
            have HA4 := Lib.hid (HA3.out.turn hg hp)
            obtain ⟨⟨s0, s1, s2, s3, s4, s5, s6, s7⟩, e0, e1, e2, e3, e4, e5, e6, e7⟩ := cells8_of w4 w.heap.size _ _ _ _ _ _ _ _ _ (blk_call B3.out hg (by simp; omega))
            obtain ⟨⟨t0, t1, t2, t3, t4, t5, t6, t7⟩, _⟩ := cells8_of w4 w2.heap.size _ _ _ _ _ _ _ _ _ (blk_call N3.out hg (by simp; omega))
            have HK4 := Lib.hid ((HK2.out.kept ((Kept.refl _ _).alloc _)).kept ((Kept.refl _ _).call hg hbp))
            have HO4 := Lib.hid ((HO2.out.kept ((Kept.refl _ _).alloc _)).kept ((Kept.refl _ _).call hg hbp))
            have HE := Lib.hid (show (PR.ok u (C.toks.drop i1)).bind (fun _ r1 => (R.expr r1).bind fun t r2 => (wantP [41] r2).bind fun _ r3 => PR.ok t r3) = .ok a r by rw [PR.bind_ok, hR1, PR.bind_ok, ← hd, hR3]; rfl)
            have HD := Lib.hid hd4
            have hz4 := hg.size
            simp at hz4
            have z1 : w.heap.size < w4.heap.size := by omega
            have z2 : w2.heap.size < w4.heap.size := by omega
            clear hg hp hv hd hd4 hR1 hR3
            go_wp2_with fail
            refine bodyPost_ret (v := ndV a (.slice sa sn sc) (.slice ka kn kc)) (by simp [results, Tryz.results119, go_sem, s0, s1, s2, s3, s4, s5, s6, s7]; rfl) rfl ?_
            exact (HA4.out.set8 (Nat.le_refl _) _ _ _ _ _ _ _ _).okOut HE.out ⟨_, _, rfl, (HO4.out.kept ((Kept.refl _ _).set8 (by simp) _ _ _ _ _ _ _ _)).out (Nat.le_refl _), (HK4.out.kept ((Kept.refl _ _).set8 (by simp) _ _ _ _ _ _ _ _)).out (Nat.le_refl _)⟩ HD.out
end Go.Proofs.YtkbplcfehllbjaaGreatDoor
/- append of two slices of nodes, of types. -/
namespace Go.Proofs.YtkbplcfehllbjaaGreatDoor
open Go.RowKit
theorem RepNl.ones {w : World} {S : Nat → Prop} : ∀ (l : List Nd) (cs : List Value), RepNl w S l cs → ∀ u ∈ cs, u.oneCell' = true
  | [], cs, h => by
    have : cs = [] := h
    subst this
    intro u hu; cases hu
  | .mk k tx n t kids :: l, cs, ⟨c1, c2, hc, h1, h2⟩ => by
    obtain ⟨ofv, kv, rfl, hof, hk⟩ := h1
    obtain ⟨sa, sn, sc, rfl⟩ := hof.isSlice
    obtain ⟨ka, kn, kc, rfl⟩ := RepK.isSlice hk
    intro u hu
    rw [hc, List.mem_append] at hu
    rcases hu with hu | hu
    · simp at hu
      rcases hu with rfl | rfl | rfl | rfl | rfl | rfl | rfl | rfl <;> rfl
    · exact RepNl.ones l c2 h2 u hu
theorem RepNl.len {w : World} {S : Nat → Prop} : ∀ (l : List Nd) (cs : List Value), RepNl w S l cs → cs.length = l.length * 8
  | [], cs, h => by
    have : cs = [] := h
    subst this; rfl
  | .mk k tx n t kids :: l, cs, ⟨c1, c2, hc, h1, h2⟩ => by
    obtain ⟨ofv, kv, rfl, hof, hk⟩ := h1
    have := RepNl.len l c2 h2
    rw [hc]; simp [this]; omega
theorem RepNl.app {w : World} {S : Nat → Prop} : ∀ (l m : List Nd) (c1 c2 : List Value), RepNl w S l c1 → RepNl w S m c2 → RepNl w S (l ++ m) (c1 ++ c2)
  | [], m, c1, c2, h1, h2 => by
    have : c1 = [] := h1
    subst this; exact h2
  | a :: l, m, c1, c2, ⟨d1, d2, hd, g1, g2⟩, h2 => ⟨d1, d2 ++ c2, by rw [hd, List.append_assoc], g1, RepNl.app l m d2 c2 g2 h2⟩
theorem row_cells {w : World} {e size n : Nat} {v : Value} {xs : List Value} (h : w.ownsRow 0 e size v n xs) : v = .slice none 0 0 ∧ n = 0 ∨ ∃ g cap, v = .slice (some ⟨g, 0, none⟩) n cap ∧ ∀ j u, xs[j]? = some u → w.cell? ((⟨g, 0, none⟩ : Addr).add j) = some u := by
  rcases h.2 with h0 | ⟨g, cap, cur, hv, _, hh, _, _, _, ht⟩
  · exact .inl h0
  · refine .inr ⟨g, cap, hv, fun j u hu => World.news_of_block hh j u ?_⟩
    rw [← ht, List.getElem?_take] at hu
    split at hu
    · exact hu
    · cases hu
set_option maxRecDepth 100000 in
theorem run_append_nodes (ty : TypeId) {w : World} {S S' : Nat → Prop} {v x : Value} {l1 l2 : List Nd} {c1 : List Value} (hrow : w.ownsRow 0 28 8 v l1.length c1) (he : RepNl w S l1 c1) (hx : RepK w S x l2)
    (hn : ∀ g, v.ownBlock = some g → ¬ S g ∧ S' g) (hS : ∀ g, S g → S' g) (hnew : S' w.heap.size) (hlen : l1.length + l2.length ≤ 40004) :
    ∃ a n c w', (Builtin.append_ #[26, 26] ty #[v, x]).run Tryz.prog w = .ok (.slice a n c) w' ∧ RepK w' S' (.slice a n c) (l1 ++ l2) ∧ w.grownBy w' v.ownBlock := by
  obtain ⟨i0, hi, hz0, hz1, hz2⟩ := info_parts infoNd
  obtain ⟨c2, hr2, hb2, he2⟩ := hx
  have hsame : ∀ w', w.grownBy w' v.ownBlock → SameOn S w w' := fun w' g k hk hl => g.block k hl (fun e => (hn k e.symm).1 hk)
  rcases row_cells hr2 with ⟨rfl, h0⟩ | ⟨g, cap, rfl, hc⟩
  · have : l2 = [] := List.eq_nil_of_length_eq_zero h0
    subst this
    have hc2 : c2 = [] := he2
    have hf : ∃ a n c, v = .slice a n c := by
      rcases row_cells hrow with ⟨rfl, _⟩ | ⟨g, cap, rfl, _⟩
      · exact ⟨_, _, _, rfl⟩
      · exact ⟨_, _, _, rfl⟩
    obtain ⟨a, n, c, rfl⟩ := hf
    refine ⟨a, n, c, w, run_append_owned_none (P := Tryz.prog) w 0 26 ty 28 i0 8 Tryz.underlying26 hi _ l1.length c1 hrow, ?_, grownBy_refl _ _⟩
    rw [List.append_nil]
    exact ⟨c1, hrow, fun g hg => (hn g hg).2, RepNl.mono (fun g hs _ => hS g hs) (fun _ _ _ => rfl) l1 c1 he⟩
  · obtain ⟨v', w', hr, h2, h3, _, h5⟩ := run_append_own_at (P := Tryz.prog) w 0 26 ty 28 i0 _ 8 112 Tryz.underlying26 hi hz0 hz1 hz2 rfl (by decide) v l1.length c1 hrow ⟨g, 0, none⟩ l2.length cap c2 hr2.1 hc (RepNl.ones l2 c2 he2) (by unfold maxLen; omega) (by omega) (Nat.zero_le _)
    have hf : ∃ a n c, v' = .slice a n c := by
      rcases row_cells h2 with ⟨rfl, _⟩ | ⟨g, cap, rfl, _⟩
      · exact ⟨_, _, _, rfl⟩
      · exact ⟨_, _, _, rfl⟩
    obtain ⟨a, n, c, rfl⟩ := hf
    refine ⟨a, n, c, w', hr, ⟨c1 ++ c2, by rw [List.length_append]; exact h2, fun k hk => ?_, ?_⟩, h3⟩
    · rcases h5 with h5 | h5
      · exact (hn k (by rw [← h5]; exact hk)).2
      · rw [h5] at hk
        cases hk
        exact hnew
    · exact RepNl.app l1 l2 c1 c2 (RepNl.mono (fun g hs _ => hS g hs) (hsame w' h3) l1 c1 he) (RepNl.mono (fun g hs _ => hS g hs) (hsame w' h3) l2 c2 he2)
theorem step_append_nodes {ops : Array Oper} {o : Oper} {a : Act} {w : World} {K : Act → World → Prop} {Q : Exit → Act → World → Prop} {E : Prop} (hgd : o.guard = none) (s x : Operand)
    (ho : o.op = .call { callee := .builtin .append, args := #[s, x], argTypes := #[26, 26] }) {S S' : Nat → Prop} {v xv : Value} {l1 l2 : List Nd} {c1 : List Value} (hs : a.eval s = v) (hxv : a.eval x = xv)
    (hrow : w.ownsRow 0 28 8 v l1.length c1) (he : RepNl w S l1 c1) (hx : RepK w S xv l2)
    (hn : ∀ g, v.ownBlock = some g → ¬ S g ∧ S' g) (hS : ∀ g, S g → S' g) (hnew : S' w.heap.size) (hlen : l1.length + l2.length ≤ 40004)
    (h : ∀ a' n c w', RepK w' S' (.slice a' n c) (l1 ++ l2) → w.grownBy w' v.ownBlock → K (a.put o.dst (.slice a' n c)) w') :
    if Region.wanted o (yielded ops a.tmps) = true then Oper.wp Tryz.prog o a w K Q else E := by
  have hw : Region.wanted o (yielded ops a.tmps) = true := by simp [Region.wanted, hgd]
  rw [if_pos hw]
  obtain ⟨a', n, c, w', hr, h2, h3⟩ := run_append_nodes o.type hrow he hx hn hS hnew hlen
  unfold Oper.wp execOp
  simp only [ho, resolve, invoke, builtin, Sem.run_bind, Sem.run_pure, Result.andThen_ok, List.map_toArray, List.map_cons, List.map_nil, hs, hxv, hr]
  exact h a' n c w' h2 h3
theorem wpList_append_nodes {ops : Array Oper} {rest : List Oper} {o : Oper} {a : Act} {w : World} {Q : Exit → Act → World → Prop} (hgd : o.guard = none) (s x : Operand)
    (ho : o.op = .call { callee := .builtin .append, args := #[s, x], argTypes := #[26, 26] }) {S S' : Nat → Prop} {v xv : Value} {l1 l2 : List Nd} {c1 : List Value} (hs : a.eval s = v) (hxv : a.eval x = xv)
    (hrow : w.ownsRow 0 28 8 v l1.length c1) (he : RepNl w S l1 c1) (hx : RepK w S xv l2)
    (hn : ∀ g, v.ownBlock = some g → ¬ S g ∧ S' g) (hS : ∀ g, S g → S' g) (hnew : S' w.heap.size) (hlen : l1.length + l2.length ≤ 40004)
    (h : ∀ a' n c w', RepK w' S' (.slice a' n c) (l1 ++ l2) → w.grownBy w' v.ownBlock → wpList Tryz.prog ops Q rest (a.put o.dst (.slice a' n c)) w') : wpList Tryz.prog ops Q (o :: rest) a w := by
  refine wpList_plain hgd fun K hK => ?_
  obtain ⟨a', n, c, w', hr, h2, h3⟩ := run_append_nodes o.type hrow he hx hn hS hnew hlen
  unfold Oper.wp execOp
  simp only [ho, resolve, invoke, builtin, Sem.run_bind, Sem.run_pure, Result.andThen_ok, List.map_toArray, List.map_cons, List.map_nil, hs, hxv, hr]
  exact hK _ _ (h a' n c w' h2 h3)
end Go.Proofs.YtkbplcfehllbjaaGreatDoor
