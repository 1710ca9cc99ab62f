/- Merged: Q20. -/
import Derived.Test.YtkbplcfehllbjaaGreatDoorMk5
import Derived.Deep.RegionWith
import Derived.Deep.DrawnRows
/- post. -/
namespace Go.Proofs.YtkbplcfehllbjaaGreatDoor
open Go.RowKit
attribute [local go_sem ↓] Go.wp_at_zero Go.wp_at_succ
theorem loop_stop {α β : Type} {step : α → List T4 → PR (α ⊕ β)} {m : Nat} {a : α} {b : β} {ts r : List T4} (h : step a ts = .ok (.inr b) r) : loopP step (m + 1) a ts = .ok b r := by
  simp [loopP, h]
theorem loop_err {α β : Type} {step : α → List T4 → PR (α ⊕ β)} {m : Nat} {a : α} {ts : List T4} {p : Nat} {e : Int} (h : step a ts = .err p e) : loopP step (m + 1) a ts = .err p e := by
  simp [loopP, h]
theorem loop_more {α β : Type} {step : α → List T4 → PR (α ⊕ β)} {m : Nat} {a a2 : α} {ts r : List T4} (h : step a ts = .ok (.inl a2) r) : loopP step (m + 1) a ts = loopP step m a2 r := by
  simp [loopP, h]
theorem list_len {α : Type} {one : List T4 → PR α} : ∀ (m : Nat) (l : List α) (ts : List T4) (l' : List α) (r : List T4), loopP (listStep one) m l ts = .ok l' r → l'.length ≤ l.length + m := by
  intro m
  induction m with
  | zero => intro l ts l' r e; cases e
  | succ m ih =>
    intro l ts l' r e
    simp only [loopP, listStep] at e
    cases h1 : one ts with
    | err p er => rw [h1] at e; cases e
    | ok a r1 =>
      rw [h1] at e
      simp only [PR.bind_ok] at e
      by_cases hc : isP [44] r1 = true
      · rw [if_pos hc] at e
        by_cases h6 : (l ++ [a]).length = 6
        · rw [if_pos h6] at e; cases e
        · rw [if_neg h6] at e
          have := ih _ _ _ _ e
          simp at this
          omega
      · rw [if_neg hc] at e
        cases h2 : wantP [41] r1 with
        | err p er => rw [h2] at e; cases e
        | ok u r2 => rw [h2] at e; cases e; simp <;> omega
theorem listP_len {α : Type} {one : List T4 → PR α} {ts : List T4} {l : List α} {r : List T4} (e : listP one ts = .ok l r) : l.length ≤ ts.length := by
  unfold listP at e
  cases h : wantP [40] ts with
  | err p er => rw [h] at e; cases e
  | ok u r1 =>
    have hle : r1.length ≤ ts.length := (Shr.want [40] ts u r1 h).1
    rw [h, PR.bind_ok] at e
    by_cases hc : isP [41] r1 = true
    · rw [if_pos hc] at e; cases e; simp
    · rw [if_neg hc] at e
      have h1 := list_len _ _ _ _ _ e
      have h2 : r1.length < ts.length := by
        refine (Shr.want [40] ts u r1 h).2 ?_
        intro e0; subst e0
        simp [wantP, isP, hdT, endT, failP] at h
      simp at h1
      omega
theorem row_one {w : World} {n : Nd} {ofv kv : Value} {L : Nat} (hb : w.heap[L]? = some (.cells #[.int .i64 n.kind, .string ⟨n.text.toArray⟩, .int .i64 n.num, .int .i64 n.typ.kind, .int .i64 n.typ.num, .string ⟨n.typ.name.toArray⟩, ofv, kv] 28 (0, 0))) :
    w.ownsRow 0 28 8 (.slice (some ⟨L, 0, none⟩) 1 1) [n].length (ndC n ofv kv) :=
  ⟨rfl, .inr ⟨L, 1, _, rfl, Nat.zero_le _, hb, Nat.le_refl _, by unfold maxLen; omega, rfl, rfl⟩⟩
/-- One node in a block of its own, and a slice of nodes: ready for append. -/
def AppR (B : Nat) (X : List Nat) (wA : World) (g0 : Nat) (n : Nd) (ofv kv v1 : Value) (l : List Nd) : Prop :=
  wA.ownsRow 0 28 8 (.slice (some ⟨g0, 0, none⟩) 1 1) [n].length (ndC n ofv kv) ∧ RepNl wA (Sx B (g0 :: X)) [n] (ndC n ofv kv) ∧ RepK wA (Sx B (g0 :: X)) v1 l ∧
  (∀ g, (Value.slice (some ⟨g0, 0, none⟩) 1 1).ownBlock = some g → ¬ Sx B (g0 :: X) g ∧ Sx B X g) ∧ (∀ g, Sx B (g0 :: X) g → Sx B X g) ∧ Sx B X wA.heap.size ∧ (∀ k, (Value.slice (some ⟨g0, 0, none⟩) 1 1).ownBlock = some k → B ≤ k) ∧ (∀ x ∈ X, (Value.slice (some ⟨g0, 0, none⟩) 1 1).ownBlock ≠ some x)
theorem sx_cons {B g0 g : Nat} {X : List Nat} (h : Sx B (g0 :: X) g) : Sx B X g := ⟨h.1, fun hm => h.2 (List.mem_cons_of_mem _ hm)⟩
theorem sx_add {B g0 g : Nat} {X : List Nat} (h : Sx B X g) (hne : g ≠ g0) : Sx B (g0 :: X) g := ⟨h.1, fun hm => by rcases List.mem_cons.1 hm with e | e; exact hne e; exact h.2 e⟩
theorem sx_new {B g0 : Nat} {X : List Nat} (hB : B ≤ g0) (hX : ∀ x ∈ X, x < g0) : Sx B X g0 := ⟨hB, fun hm => Nat.lt_irrefl _ (hX _ hm)⟩
theorem own_is {g0 g k c : Nat} (h : (Value.slice (some ⟨g0, 0, none⟩) k c).ownBlock = some g) : g = g0 := by simp [Value.ownBlock] at h; exact h.symm
theorem app_late {B : Nat} {X : List Nat} {wc : World} {n : Nd} {ofv kv v1 : Value} {l : List Nd} (ho : RepOf wc (Sx B X) ofv n.typ.of) (hk : RepK wc (Sx B X) kv n.kids) (hl : RepK wc (Sx B X) v1 l) (hB : B ≤ wc.heap.size) (hX : ∀ x ∈ X, x < wc.heap.size) :
    AppR B X (wc.alloc (.cells #[.int .i64 n.kind, .string ⟨n.text.toArray⟩, .int .i64 n.num, .int .i64 n.typ.kind, .int .i64 n.typ.num, .string ⟨n.typ.name.toArray⟩, ofv, kv] 28 (0, 0))) wc.heap.size n ofv kv v1 l := by
  refine ⟨row_one (blk_new wc _), ⟨ndC n ofv kv, [], by simp, RepN.of ?_ ?_, rfl⟩, ?_, fun g hg => ?_, fun g hg => sx_cons hg, sx_new (by simp; omega) (fun x hx => by have := hX x hx; simp; omega), fun k hk => ?_, fun x hx e => by have := own_is e; have := hX x hx; omega⟩
  · exact (ho.mono (fun g hs hlt => sx_add hs (by omega)) (fun _ _ _ => rfl)).kept ((Kept.refl _ _).alloc _)
  · exact (hk.mono (fun g hs hlt => sx_add hs (by omega)) (fun _ _ _ => rfl)).kept ((Kept.refl _ _).alloc _)
  · exact (hl.mono (fun g hs hlt => sx_add hs (by omega)) (fun _ _ _ => rfl)).kept ((Kept.refl _ _).alloc _)
  · obtain rfl := own_is hg
    exact ⟨fun h => h.2 (by simp), sx_new hB hX⟩
  · obtain rfl := own_is hk
    exact hB
theorem app_early {B r : Nat} {X : List Nat} {W wc : World} {n : Nd} {ofv kv v1 : Value} {l : List Nd} (ho : RepOf W (Sx B X) ofv n.typ.of) (hk : RepK W (Sx B X) kv n.kids) (hB : B ≤ W.heap.size) (hX : ∀ x ∈ X, x < W.heap.size)
    (hg : (W.alloc (.cells #[.int .i64 n.kind, .string ⟨n.text.toArray⟩, .int .i64 n.num, .int .i64 n.typ.kind, .int .i64 n.typ.num, .string ⟨n.typ.name.toArray⟩, ofv, kv] 28 (0, 0))).drew.grownBy wc (some r)) (hr : r < B)
    (hl : RepK wc (fun g => W.heap.size + 1 ≤ g) v1 l) : AppR B X wc W.heap.size n ofv kv v1 l := by
  have hz := hg.size
  simp at hz
  have K := ((Kept.refl (Sx B (W.heap.size :: X)) W).alloc (.cells #[.int .i64 n.kind, .string ⟨n.text.toArray⟩, .int .i64 n.num, .int .i64 n.typ.kind, .int .i64 n.typ.num, .string ⟨n.typ.name.toArray⟩, ofv, kv] 28 (0, 0))).drew.call hg hr
  refine ⟨row_one (blk_call (blk_new W _) (undrew hg) (by simp; omega)), ⟨ndC n ofv kv, [], by simp, RepN.of ?_ ?_, rfl⟩, ?_, fun g hg => ?_, fun g hg => sx_cons hg, sx_new (by omega) (fun x hx => by have := hX x hx; omega), fun k hk => ?_, fun x hx e => by have := own_is e; have := hX x hx; omega⟩
  · exact (ho.mono (fun g hs hlt => sx_add hs (by omega)) (fun _ _ _ => rfl)).kept K
  · exact (hk.mono (fun g hs hlt => sx_add hs (by omega)) (fun _ _ _ => rfl)).kept K
  · exact hl.mono (fun g hs hlt => sx_add (sx_new (by omega) (fun x hx => by have := hX x hx; omega)) (by omega)) (fun _ _ _ => rfl)
  · obtain rfl := own_is hg
    exact ⟨fun h => h.2 (by simp), sx_new hB hX⟩
  · obtain rfl := own_is hk
    exact hB
set_option maxRecDepth 100000 in
set_option maxHeartbeats 4000000 in
theorem post_any (C : Ctx) (d : Nat) (R : Rec) (L : Lev C d R) : RunsN 116 C d (postP R) := by
    intro w i h
    have HP := Lib.hid h.at
    have hbp := lt_of_heap h.blk
    have hlen := h.len
    have HL := Lib.hid L
    have hp : C.p = .pointer (some ⟨C.bp, 0, none⟩) := rfl
    clear L h
    unfold postP
    have hf := field2
    go_enter Tryz.func116, Tryz.ntmps116
    go_wp2_with fail
    have HA0 := Lib.hid (HP.out.alloc (.cells #[.int .i64 0, .string ⟨#[]⟩, .int .i64 0, .int .i64 0, .int .i64 0, .string ⟨#[]⟩, .slice none 0 0, .slice none 0 0] 28))
    have B0 := Lib.hid (blk_new w (.cells #[.int .i64 0, .string ⟨#[]⟩, .int .i64 0, .int .i64 0, .int .i64 0, .string ⟨#[]⟩, .slice none 0 0, .slice none 0 0] 28))
    have HC := Lib.hid (term_any C d R HL.out _ i HA0.out.pr)
    generalize hR1 : termP R (C.toks.drop i) = R1 at HC
    refine HC.out.mono ?_
    cases R1 with
    | err p er =>
      rintro e w1 ⟨hg, i1, d1, rfl, hdd, hp1⟩
      exact ⟨rfl, (HA0.out.turn hg hp1).errOut (by rw [hR1]; rfl)⟩
    | ok n r =>
      rintro e w1 ⟨hg, v1, i1, rfl, ⟨ofv, kv, rfl, hof, hkv⟩, hp1, rfl⟩
      obtain ⟨sa, sn, sc, rfl⟩ := hof.isSlice
      obtain ⟨ka, kn, kc, rfl⟩ := hkv.isSlice
      have HA1 := Lib.hid (HA0.out.turn hg hp1)
      have B1 := Lib.hid (blk_call B0.out hg (by simp; omega))
      have hz1 := hg.size
      simp at hz1
      have hi1 := hp1.lt
      have HO1 := Lib.hid (hof.mono (S' := Sx w.heap.size [w.heap.size, w1.heap.size]) (fun g hs hl => ⟨by simp at hs; omega, by simp at hs; simp; omega⟩) (fun _ _ _ => rfl))
      have HK1 := Lib.hid (hkv.mono (S' := Sx w.heap.size [w.heap.size, w1.heap.size]) (fun g hs hl => ⟨by simp at hs; omega, by simp at hs; simp; omega⟩) (fun _ _ _ => rfl))
      have HR1 := Lib.hid hR1
      clear hg hp1 hof hkv hR1 HC
      unfold ndV
      go_wp2_with fail
      have z2 : w.heap.size < w1.heap.size := by omega
      have N1 := Lib.hid (blk_new w1 (.cells #[.int .i64 n.kind, .string ⟨n.text.toArray⟩, .int .i64 n.num, .int .i64 n.typ.kind, .int .i64 n.typ.num, .string ⟨n.typ.name.toArray⟩, .slice sa sn sc, .slice ka kn kc] 28))
      have B2 := Lib.hid (blk_alloc B1.out (.cells #[.int .i64 n.kind, .string ⟨n.text.toArray⟩, .int .i64 n.num, .int .i64 n.typ.kind, .int .i64 n.typ.num, .string ⟨n.typ.name.toArray⟩, .slice sa sn sc, .slice ka kn kc] 28))
      have HA2 := Lib.hid (HA1.out.alloc (.cells #[.int .i64 n.kind, .string ⟨n.text.toArray⟩, .int .i64 n.num, .int .i64 n.typ.kind, .int .i64 n.typ.num, .string ⟨n.typ.name.toArray⟩, .slice sa sn sc, .slice ka kn kc] 28))
      have HO2 := Lib.hid (HO1.out.kept ((Kept.refl _ _).alloc (.cells #[.int .i64 n.kind, .string ⟨n.text.toArray⟩, .int .i64 n.num, .int .i64 n.typ.kind, .int .i64 n.typ.num, .string ⟨n.typ.name.toArray⟩, .slice sa sn sc, .slice ka kn kc] 28)))
      have HK2 := Lib.hid (HK1.out.kept ((Kept.refl _ _).alloc (.cells #[.int .i64 n.kind, .string ⟨n.text.toArray⟩, .int .i64 n.num, .int .i64 n.typ.kind, .int .i64 n.typ.num, .string ⟨n.typ.name.toArray⟩, .slice sa sn sc, .slice ka kn kc] 28)))
      have hz3 : w1.heap.size < (w1.alloc (.cells #[.int .i64 n.kind, .string ⟨n.text.toArray⟩, .int .i64 n.num, .int .i64 n.typ.kind, .int .i64 n.typ.num, .string ⟨n.typ.name.toArray⟩, .slice sa sn sc, .slice ka kn kc] 28)).heap.size := by simp
      generalize w1.heap.size = L1 at *
      go_loopg [] (C.toks.length - i1) (fun g wr => ∃ (i' m : Nat) (n' : Nd) (xa ya : Option Addr) (xn xc yn yc : Nat), g = C.toks.length - i' ∧ i' < C.toks.length ∧ C.toks.length - i' < m ∧ L1 < wr.heap.size ∧ Hid (At C w wr i' d) ∧ Hid (wr.heap[w.heap.size]? = some (.cells #[.int .i64 0, .string ⟨#[]⟩, .int .i64 0, .int .i64 0, .int .i64 0, .string ⟨#[]⟩, .slice none 0 0, .slice none 0 0] 28)) ∧ Hid (wr.heap[L1]? = some (.cells #[.int .i64 n'.kind, .string ⟨n'.text.toArray⟩, .int .i64 n'.num, .int .i64 n'.typ.kind, .int .i64 n'.typ.num, .string ⟨n'.typ.name.toArray⟩, .slice xa xn xc, .slice ya yn yc] 28)) ∧
        Hid (RepOf wr (Sx w.heap.size [w.heap.size, L1]) (.slice xa xn xc) n'.typ.of) ∧ Hid (RepK wr (Sx w.heap.size [w.heap.size, L1]) (.slice ya yn yc) n'.kids) ∧ Hid (loopP (postStep R) ((C.toks.drop i1).length + 1) n (C.toks.drop i1) = loopP (postStep R) m n' (C.toks.drop i')))
      case atStart => exact ⟨i1, (C.toks.drop i1).length + 1, n, sa, ka, sn, sc, kn, kc, rfl, hi1, by simp, hz3, HA2.out, B2.out, N1.out, HO2.out, HK2.out, rfl⟩
      case round =>
        obtain ⟨i', m, n', xa, ya, xn, xc, yn, yc, rfl, hi', hm, hLz, hat, hb0, hb1, hO, hK, hE⟩ := hrel
        obtain ⟨m, rfl⟩ : ∃ k, m = k + 1 := ⟨m - 1, by omega⟩
        have HT := Lib.hid (token_any C wr i' d hat.out.pr _ (hd_at _ _ hi'))
        have hfin := hat.out.pr.fin i' _ (hd_at _ _ hi')
        have hpost : postStep R n' (C.toks.drop i') = if (hdT (C.toks.drop i')).text == [91] then (R.expr (C.toks.drop i').tail).bind fun m r1 => (wantP [93] r1).bind fun _ r2 => .ok (.inl (Nd.of 6 [n', m])) r2
          else if (hdT (C.toks.drop i')).text == [46] then (nameP (C.toks.drop i').tail).bind fun nm r => .ok (.inl (.mk 7 nm 0 Ty.none [n'])) r
          else if (hdT (C.toks.drop i')).text == [45, 62] then (nameP (C.toks.drop i').tail).bind fun nm r => .ok (.inl (.mk 8 nm 0 Ty.none [n'])) r
          else if (hdT (C.toks.drop i')).text == [40] then (listP R.expr (C.toks.drop i')).bind fun l r => .ok (.inl (Nd.of 9 (n' :: l))) r
          else .ok (.inr n') (C.toks.drop i') := rfl
        rw [tl_at] at hpost
        generalize hdT (C.toks.drop i') = t at *
        have hLC : L1 ≠ C.bp := by omega
        have hLC2 : ¬ L1 = C.bp := by omega
        have hLw : ¬ w.heap.size = L1 := by omega
        have hwb : ¬ w.heap.size = C.bp := by omega
        cases g1 : t.text == [91] with
        | true =>
          rw [g1, if_pos rfl] at hpost
          have hl : i' + 1 < C.toks.length := hfin (.inl (by intro e; rw [e] at g1; cases g1))
          clear hfin
          go_wp2_with fail
          refine HT.out.mono ?_
          rintro e w2 ⟨rfl, hg2⟩
          have HG2 := Lib.hid hg2
          have HA2' := Lib.hid (hat.out.call hg2)
          obtain ⟨c0, c1, c2, c3, f0, f1, f2, f3⟩ := cells4_of w2 C.bp _ _ _ _ _ HA2'.out.pr.blk
          have hz5 := hg2.size
          have z6 : L1 < w2.heap.size := by omega
          have z7 : w.heap.size < w2.heap.size := by omega
          have hbz : C.bp < w2.heap.size := by omega
          have HPO := Lib.hid hpost
          have HN : Hid (∀ w, Pr C w (i' + 1) d → Calls Tryz.prog 100 #[C.p] w (Out C w d (R.expr (C.toks.drop (i' + 1))) (fun n => ndVal n w))) := Lib.hid (fun w h => HL.out.ex w (i' + 1) h)
          have HS2 := Lib.hid (fun a r => (HL.out.shr.ex).shrinks (C.toks.drop (i' + 1)) a r (by simp; omega))
          clear hg2 hpost
          unfold tkV
          go_wp2_with fail
          have HA7 := Lib.hid (HA2'.out.next hl (v := (i' : Int) + 1) (by omega))
          have B7 := Lib.hid (blk_set (blk_call hb1.out HG2.out (by simp)) (p := ⟨C.bp, 1, none⟩) hLC (.int .i64 ((i' : Int) + 1)))
          have Z7 := Lib.hid (blk_set (blk_call hb0.out HG2.out (by simp)) (p := ⟨C.bp, 1, none⟩) hwb (.int .i64 ((i' : Int) + 1)))
          have K7 := Lib.hid (((Kept.refl (Sx w.heap.size [w.heap.size, L1]) wr).call0 HG2.out).setLow (p := ⟨C.bp, 1, none⟩) hbp (.int .i64 ((i' : Int) + 1)))
          have hW7 : L1 < (w2.setCell ⟨C.bp, 1, none⟩ (.int .i64 ((i' : Int) + 1))).heap.size := by rw [show (w2.setCell ⟨C.bp, 1, none⟩ (.int .i64 ((i' : Int) + 1))).heap.size = w2.heap.size by simp [World.setCell]]; exact z6
          generalize w2.setCell ⟨C.bp, 1, none⟩ (.int .i64 ((i' : Int) + 1)) = W7 at *
          have HO7 := Lib.hid (hO.out.kept K7.out)
          have HK7 := Lib.hid (hK.out.kept K7.out)
          clear HP HA0 HA1 HA2 HO1 HO2 HK1 HK2 B0 B1 B2 N1 hb0 hb1 hO hK HA2' HG2 hat HT HL c0 c1 c2 c3 f0 f1 f2 f3
          generalize R.expr (C.toks.drop (i' + 1)) = R0 at *
          obtain ⟨⟨q0, q1, q2, q3, q4, q5, q6, q7⟩, _⟩ := cells8_of W7 L1 _ _ _ _ _ _ _ _ _ B7.out
          have hz7 : w.heap.size < W7.heap.size := by omega
          go_region_with (first
            | (go_at_call 100; refine (HN.out _ HA7.out.drew.pr).mono ?_; rcases R0 with ⟨m2, r⟩ | ⟨p, er⟩; rotate_left; (rintro e wc ⟨hg, i2, d2, rfl, hdd, hp1⟩; exact ⟨rfl, (HA7.out.drew.turn hg hp1).errOut (by rw [HR1.out, PR.bind_ok]; exact hE.out.trans (loop_err (HPO.out.trans rfl)))⟩); rintro e wc ⟨hg, v1, i2, rfl, ⟨ofm, km, rfl, hof, hkm⟩, hp1, hd1⟩; obtain ⟨oa, on, oc, rfl⟩ := hof.isSlice; obtain ⟨ma, mn, mc, rfl⟩ := hkm.isSlice; have hz8 := hg.size; simp at hz8; have HF := Lib.hid (And.intro (HA7.out.drew.turn hg hp1) (And.intro hd1 (And.intro (blk_call B7.out (undrew hg) (by simp; omega)) (And.intro (blk_call Z7.out (undrew hg) (by simp; omega)) (RepK.two (HO7.out.kept (((Kept.refl (Sx w.heap.size [w.heap.size, L1]) W7).drew.call hg hbp).alloc (.cells #[.int .i64 n'.kind, .string ⟨n'.text.toArray⟩, .int .i64 n'.num, .int .i64 n'.typ.kind, .int .i64 n'.typ.num, .string ⟨n'.typ.name.toArray⟩, .slice xa xn xc, .slice ya yn yc, .int .i64 m2.kind, .string ⟨m2.text.toArray⟩, .int .i64 m2.num, .int .i64 m2.typ.kind, .int .i64 m2.typ.num, .string ⟨m2.typ.name.toArray⟩, .slice oa on oc, .slice ma mn mc] 28 (0, 0)))) (HK7.out.kept (((Kept.refl (Sx w.heap.size [w.heap.size, L1]) W7).drew.call hg hbp).alloc (.cells #[.int .i64 n'.kind, .string ⟨n'.text.toArray⟩, .int .i64 n'.num, .int .i64 n'.typ.kind, .int .i64 n'.typ.num, .string ⟨n'.typ.name.toArray⟩, .slice xa xn xc, .slice ya yn yc, .int .i64 m2.kind, .string ⟨m2.text.toArray⟩, .int .i64 m2.num, .int .i64 m2.typ.kind, .int .i64 m2.typ.num, .string ⟨m2.typ.name.toArray⟩, .slice oa on oc, .slice ma mn mc] 28 (0, 0)))) ((hof.into (X := [w.heap.size, L1]) (B := w.heap.size) (by simp; omega) (by simp; omega)).kept ((Kept.refl _ _).alloc (.cells #[.int .i64 n'.kind, .string ⟨n'.text.toArray⟩, .int .i64 n'.num, .int .i64 n'.typ.kind, .int .i64 n'.typ.num, .string ⟨n'.typ.name.toArray⟩, .slice xa xn xc, .slice ya yn yc, .int .i64 m2.kind, .string ⟨m2.text.toArray⟩, .int .i64 m2.num, .int .i64 m2.typ.kind, .int .i64 m2.typ.num, .string ⟨m2.typ.name.toArray⟩, .slice oa on oc, .slice ma mn mc] 28 (0, 0)))) ((hkm.into (X := [w.heap.size, L1]) (B := w.heap.size) (by simp; omega) (by simp; omega)).kept ((Kept.refl _ _).alloc (.cells #[.int .i64 n'.kind, .string ⟨n'.text.toArray⟩, .int .i64 n'.num, .int .i64 n'.typ.kind, .int .i64 n'.typ.num, .string ⟨n'.typ.name.toArray⟩, .slice xa xn xc, .slice ya yn yc, .int .i64 m2.kind, .string ⟨m2.text.toArray⟩, .int .i64 m2.num, .int .i64 m2.typ.kind, .int .i64 m2.typ.num, .string ⟨m2.typ.name.toArray⟩, .slice oa on oc, .slice ma mn mc] 28 (0, 0)))) (blk_new wc (.cells #[.int .i64 n'.kind, .string ⟨n'.text.toArray⟩, .int .i64 n'.num, .int .i64 n'.typ.kind, .int .i64 n'.typ.num, .string ⟨n'.typ.name.toArray⟩, .slice xa xn xc, .slice ya yn yc, .int .i64 m2.kind, .string ⟨m2.text.toArray⟩, .int .i64 m2.num, .int .i64 m2.typ.kind, .int .i64 m2.typ.num, .string ⟨m2.typ.name.toArray⟩, .slice oa on oc, .slice ma mn mc] 28 (0, 0))) ⟨by omega, by simp; omega⟩))))); obtain ⟨⟨p0, p1, p2, p3, p4, p5, p6, p7⟩, _⟩ := cells8_of wc L1 _ _ _ _ _ _ _ _ _ HF.out.2.2.1; have hz9 : L1 < wc.heap.size := (by omega); clear hg hp1 hof hkm; unfold ndV)
            | (go_at_call 95; refine (node_any 6 [n', m2] _ _ _ HF.out.2.2.2.2).mono ?_; rintro e wd ⟨hgd, rfl, hrd⟩; have HG := Lib.hid (And.intro hgd hrd); obtain ⟨_, e0, e1, e2, e3, e4, e5, e6, e7⟩ := cells8_of wd L1 _ _ _ _ _ _ _ _ _ (blk_call (blk_alloc HF.out.2.2.1 _) hgd (by simp)); have hz7' := hgd.size; simp at hz7'; have z9 : L1 < wd.heap.size := (by omega); clear hgd hrd; unfold ndV))
          all_goals
            go_wp2_with fail
            have HA8 := Lib.hid (((HF.out.1.alloc _).call HG.out.1).set8 (b := L1) (by omega) (.int .i64 (Nd.of 6 [n', m2]).kind) (.string ⟨(Nd.of 6 [n', m2]).text.toArray⟩) (.int .i64 (Nd.of 6 [n', m2]).num) (.int .i64 (Nd.of 6 [n', m2]).typ.kind) (.int .i64 (Nd.of 6 [n', m2]).typ.num) (.string ⟨(Nd.of 6 [n', m2]).typ.name.toArray⟩) (.slice none 0 0) (.slice (some ⟨wc.heap.size, 0, none⟩) 2 2))
            have B8 := Lib.hid (blk_put8 (blk_call (blk_alloc HF.out.2.2.1 _) HG.out.1 (by simp)) (.int .i64 (Nd.of 6 [n', m2]).kind) (.string ⟨(Nd.of 6 [n', m2]).text.toArray⟩) (.int .i64 (Nd.of 6 [n', m2]).num) (.int .i64 (Nd.of 6 [n', m2]).typ.kind) (.int .i64 (Nd.of 6 [n', m2]).typ.num) (.string ⟨(Nd.of 6 [n', m2]).typ.name.toArray⟩) (.slice none 0 0) (.slice (some ⟨wc.heap.size, 0, none⟩) 2 2))
            have Z8 := Lib.hid (blk_set8 (blk_call (blk_alloc HF.out.2.2.2.1 _) HG.out.1 (by simp)) hLw (.int .i64 (Nd.of 6 [n', m2]).kind) (.string ⟨(Nd.of 6 [n', m2]).text.toArray⟩) (.int .i64 (Nd.of 6 [n', m2]).num) (.int .i64 (Nd.of 6 [n', m2]).typ.kind) (.int .i64 (Nd.of 6 [n', m2]).typ.num) (.string ⟨(Nd.of 6 [n', m2]).typ.name.toArray⟩) (.slice none 0 0) (.slice (some ⟨wc.heap.size, 0, none⟩) 2 2))
            have K8 := Lib.hid (HG.out.2.kept ((Kept.refl (Sx w.heap.size [w.heap.size, L1]) wd).set8 (b := L1) (by simp) (.int .i64 (Nd.of 6 [n', m2]).kind) (.string ⟨(Nd.of 6 [n', m2]).text.toArray⟩) (.int .i64 (Nd.of 6 [n', m2]).num) (.int .i64 (Nd.of 6 [n', m2]).typ.kind) (.int .i64 (Nd.of 6 [n', m2]).typ.num) (.string ⟨(Nd.of 6 [n', m2]).typ.name.toArray⟩) (.slice none 0 0) (.slice (some ⟨wc.heap.size, 0, none⟩) 2 2)))
            have hz10 : L1 < (((((((((wd.setCell ⟨L1, 0, none⟩ (.int .i64 (Nd.of 6 [n', m2]).kind)).setCell ⟨L1, 1, none⟩ (.string ⟨(Nd.of 6 [n', m2]).text.toArray⟩)).setCell ⟨L1, 2, none⟩ (.int .i64 (Nd.of 6 [n', m2]).num)).setCell ⟨L1, 3, none⟩ (.int .i64 (Nd.of 6 [n', m2]).typ.kind)).setCell ⟨L1, 4, none⟩ (.int .i64 (Nd.of 6 [n', m2]).typ.num)).setCell ⟨L1, 5, none⟩ (.string ⟨(Nd.of 6 [n', m2]).typ.name.toArray⟩)).setCell ⟨L1, 6, none⟩ (.slice none 0 0)).setCell ⟨L1, 7, none⟩ (.slice (some ⟨wc.heap.size, 0, none⟩) 2 2))).heap.size := by simp [World.setCell]; omega
            have hd8 := HF.out.2.1
            have hs8 := HS2.out m2 r rfl
            have hi2 : i2 < C.toks.length := HF.out.1.pr.lt
            generalize ((((((((wd.setCell ⟨L1, 0, none⟩ (.int .i64 (Nd.of 6 [n', m2]).kind)).setCell ⟨L1, 1, none⟩ (.string ⟨(Nd.of 6 [n', m2]).text.toArray⟩)).setCell ⟨L1, 2, none⟩ (.int .i64 (Nd.of 6 [n', m2]).num)).setCell ⟨L1, 3, none⟩ (.int .i64 (Nd.of 6 [n', m2]).typ.kind)).setCell ⟨L1, 4, none⟩ (.int .i64 (Nd.of 6 [n', m2]).typ.num)).setCell ⟨L1, 5, none⟩ (.string ⟨(Nd.of 6 [n', m2]).typ.name.toArray⟩)).setCell ⟨L1, 6, none⟩ (.slice none 0 0)).setCell ⟨L1, 7, none⟩ (.slice (some ⟨wc.heap.size, 0, none⟩) 2 2)) = W8 at *
            subst hd8
            clear HF HG
            refine (want_any C _ i2 d HA8.out.pr [93] (by simp)).mono ?_
            generalize hRw : wantP [93] (C.toks.drop i2) = Rw
            rcases Rw with ⟨u, r9⟩ | ⟨p, er⟩
            · rintro e w9 ⟨hg, v9, i9, rfl, hv, hp9, hd9⟩
              have hv' : v9 = .tuple #[] := hv
              subst hv'
              have hi9 : i9 < C.toks.length := hp9.lt
              have hs9 := (Shr.want [93]).shrinks _ _ _ (by simp; omega) hRw
              rw [← hd9] at hs9
              simp at hs8 hs9
              have HA9 := Lib.hid (HA8.out.turn hg hp9)
              have B9 := Lib.hid (blk_call B8.out hg (by simp; omega))
              have Z9 := Lib.hid (blk_call Z8.out hg (by simp; omega))
              have K9 := Lib.hid (K8.out.kept ((Kept.refl (Sx w.heap.size [w.heap.size, L1]) W8).call hg hbp))
              have hz11 := hg.size
              have HRW := Lib.hid (And.intro hRw hd9)
              have hlt : C.toks.length - i9 < C.toks.length - i' := by omega
              have hm9 : C.toks.length - i9 < m := by omega
              have hz12 : L1 < w9.heap.size := by omega
              clear hg hp9 hRw hd9 hv hs8 hs9
              go_wp2_with fail
              go_roundg (C.toks.length - i9)
              case measure => omega
              case rel =>
                exact ⟨i9, m, Nd.of 6 [n', m2], none, some ⟨wc.heap.size, 0, none⟩, 0, 0, 2, 2, rfl, hi9, hm9, hz12, HA9.out, Z9.out, B9.out, RepOf.nil _ _, K9.out, hE.out.trans ((loop_more (by rw [HPO.out, PR.bind_ok, HRW.out.1]; rfl)).trans (by rw [HRW.out.2]))⟩
            · rintro e w9 ⟨hg, i9, d9, rfl, hdd, hp9⟩
              exact ⟨rfl, (HA8.out.turn hg hp9).errOut (by rw [HR1.out, PR.bind_ok]; exact hE.out.trans (loop_err (by rw [HPO.out, PR.bind_ok, hRw]; rfl)))⟩
        | false =>
        rw [g1, if_neg (by simp)] at hpost
        cases g2 : t.text == [46] with
        | true =>
          rw [g2, if_pos rfl] at hpost
          have hl : i' + 1 < C.toks.length := hfin (.inl (by intro e; rw [e] at g2; cases g2))
          clear hfin
          have HPO := Lib.hid hpost
          clear hpost
          go_wp2_with fail
          refine HT.out.mono ?_
          rintro e w2 ⟨rfl, hg2⟩
          have HA2' := Lib.hid (hat.out.call hg2)
          have B2' := Lib.hid (blk_call hb1.out hg2 (by simp))
          have Z2' := Lib.hid (blk_call hb0.out hg2 (by simp))
          have K2' := Lib.hid ((Kept.refl (Sx w.heap.size [w.heap.size, L1]) wr).call0 hg2)
          have HO2' := Lib.hid (hO.out.kept K2'.out)
          have HK2' := Lib.hid (hK.out.kept K2'.out)
          have hz5 := hg2.size
          have z6 : L1 < w2.heap.size := by omega
          have z7 : w.heap.size < w2.heap.size := by omega
          obtain ⟨⟨q0, q1, q2, q3, q4, q5, q6, q7⟩, _⟩ := cells8_of w2 L1 _ _ _ _ _ _ _ _ _ B2'.out
          have HFd := Lib.hid (field_any 7 n' (.slice xa xn xc) (.slice ya yn yc) w.heap.size [w.heap.size, L1] C hbp w2 i' d HA2'.out.pr hl (by omega) (by simp; omega) HO2'.out HK2'.out)
          have HS2 := Lib.hid (fun a r => Shr.name.shrinks (C.toks.drop (i' + 1)) a r (by simp; omega))
          clear hg2
          generalize nameP (C.toks.drop (i' + 1)) = R0 at *
          unfold tkV
          go_wp2_with fail
          refine HFd.out.mono ?_
          rcases R0 with ⟨nm, r⟩ | ⟨p, er⟩
          · rintro e w3 ⟨hg, v3, i3, rfl, ⟨ofm, km, rfl, hof, hkm⟩, hp3, hd3⟩
            obtain ⟨oa, on, oc, rfl⟩ := hof.isSlice
            obtain ⟨ma, mn, mc, rfl⟩ := hkm.isSlice
            have HA3 := Lib.hid (HA2'.out.turn hg hp3)
            have B3 := Lib.hid (blk_call B2'.out hg (by simp; omega))
            have Z3 := Lib.hid (blk_call Z2'.out hg (by simp; omega))
            have HO3 := Lib.hid (hof.join (by omega) (by simp; omega))
            have HK3 := Lib.hid (hkm.join (by omega) (by simp; omega))
            have hi3 : i3 < C.toks.length := hp3.lt
            have hs9 := HS2.out nm r rfl
            rw [← hd3] at hs9
            simp at hs9
            have hz9 := hg.size
            have z8 : L1 < w3.heap.size := by omega
            obtain ⟨_, e0, e1, e2, e3, e4, e5, e6, e7⟩ := cells8_of w3 L1 _ _ _ _ _ _ _ _ _ B3.out
            have HD3 := Lib.hid hd3
            have hlt : C.toks.length - i3 < C.toks.length - i' := by omega
            have hm9 : C.toks.length - i3 < m := by omega
            clear hg hp3 hof hkm hd3 hs9 HFd
            unfold ndV
            go_wp2_with fail
            go_roundg (C.toks.length - i3)
            case measure => omega
            case rel =>
              have K := (Kept.refl (Sx w.heap.size [w.heap.size, L1]) w3).set8 (b := L1) (by simp) (.int .i64 (Nd.mk 7 nm 0 Ty.none [n']).kind) (.string ⟨(Nd.mk 7 nm 0 Ty.none [n']).text.toArray⟩) (.int .i64 (Nd.mk 7 nm 0 Ty.none [n']).num) (.int .i64 (Nd.mk 7 nm 0 Ty.none [n']).typ.kind) (.int .i64 (Nd.mk 7 nm 0 Ty.none [n']).typ.num) (.string ⟨(Nd.mk 7 nm 0 Ty.none [n']).typ.name.toArray⟩) (.slice oa on oc) (.slice ma mn mc)
              exact ⟨i3, m, .mk 7 nm 0 Ty.none [n'], oa, ma, on, oc, mn, mc, rfl, hi3, hm9, by simp [World.setCell]; omega, HA3.out.set8 (b := L1) (by omega) (.int .i64 (Nd.mk 7 nm 0 Ty.none [n']).kind) (.string ⟨(Nd.mk 7 nm 0 Ty.none [n']).text.toArray⟩) (.int .i64 (Nd.mk 7 nm 0 Ty.none [n']).num) (.int .i64 (Nd.mk 7 nm 0 Ty.none [n']).typ.kind) (.int .i64 (Nd.mk 7 nm 0 Ty.none [n']).typ.num) (.string ⟨(Nd.mk 7 nm 0 Ty.none [n']).typ.name.toArray⟩) (.slice oa on oc) (.slice ma mn mc), blk_set8 Z3.out hLw (.int .i64 (Nd.mk 7 nm 0 Ty.none [n']).kind) (.string ⟨(Nd.mk 7 nm 0 Ty.none [n']).text.toArray⟩) (.int .i64 (Nd.mk 7 nm 0 Ty.none [n']).num) (.int .i64 (Nd.mk 7 nm 0 Ty.none [n']).typ.kind) (.int .i64 (Nd.mk 7 nm 0 Ty.none [n']).typ.num) (.string ⟨(Nd.mk 7 nm 0 Ty.none [n']).typ.name.toArray⟩) (.slice oa on oc) (.slice ma mn mc), blk_put8 B3.out (.int .i64 (Nd.mk 7 nm 0 Ty.none [n']).kind) (.string ⟨(Nd.mk 7 nm 0 Ty.none [n']).text.toArray⟩) (.int .i64 (Nd.mk 7 nm 0 Ty.none [n']).num) (.int .i64 (Nd.mk 7 nm 0 Ty.none [n']).typ.kind) (.int .i64 (Nd.mk 7 nm 0 Ty.none [n']).typ.num) (.string ⟨(Nd.mk 7 nm 0 Ty.none [n']).typ.name.toArray⟩) (.slice oa on oc) (.slice ma mn mc), HO3.out.kept K, HK3.out.kept K, hE.out.trans ((loop_more (HPO.out.trans rfl)).trans (by rw [HD3.out]))⟩
          · rintro e w3 ⟨hg, i3, d3, rfl, hdd, hp3⟩
            exact ⟨rfl, (HA2'.out.turn hg hp3).errOut (by rw [HR1.out, PR.bind_ok]; exact hE.out.trans (loop_err (HPO.out.trans rfl)))⟩
        | false =>
        rw [g2, if_neg (by simp)] at hpost
        cases g3 : t.text == [45, 62] with
        | true =>
          rw [g3, if_pos rfl] at hpost
          have hl : i' + 1 < C.toks.length := hfin (.inl (by intro e; rw [e] at g3; cases g3))
          clear hfin
          have HPO := Lib.hid hpost
          clear hpost
          go_wp2_with fail
          refine HT.out.mono ?_
          rintro e w2 ⟨rfl, hg2⟩
          have HA2' := Lib.hid (hat.out.call hg2)
          have B2' := Lib.hid (blk_call hb1.out hg2 (by simp))
          have Z2' := Lib.hid (blk_call hb0.out hg2 (by simp))
          have K2' := Lib.hid ((Kept.refl (Sx w.heap.size [w.heap.size, L1]) wr).call0 hg2)
          have HO2' := Lib.hid (hO.out.kept K2'.out)
          have HK2' := Lib.hid (hK.out.kept K2'.out)
          have hz5 := hg2.size
          have z6 : L1 < w2.heap.size := by omega
          have z7 : w.heap.size < w2.heap.size := by omega
          obtain ⟨⟨q0, q1, q2, q3, q4, q5, q6, q7⟩, _⟩ := cells8_of w2 L1 _ _ _ _ _ _ _ _ _ B2'.out
          have HFd := Lib.hid (field_any 8 n' (.slice xa xn xc) (.slice ya yn yc) w.heap.size [w.heap.size, L1] C hbp w2 i' d HA2'.out.pr hl (by omega) (by simp; omega) HO2'.out HK2'.out)
          have HS2 := Lib.hid (fun a r => Shr.name.shrinks (C.toks.drop (i' + 1)) a r (by simp; omega))
          clear hg2
          generalize nameP (C.toks.drop (i' + 1)) = R0 at *
          unfold tkV
          go_wp2_with fail
          refine HFd.out.mono ?_
          rcases R0 with ⟨nm, r⟩ | ⟨p, er⟩
          · rintro e w3 ⟨hg, v3, i3, rfl, ⟨ofm, km, rfl, hof, hkm⟩, hp3, hd3⟩
            obtain ⟨oa, on, oc, rfl⟩ := hof.isSlice
            obtain ⟨ma, mn, mc, rfl⟩ := hkm.isSlice
            have HA3 := Lib.hid (HA2'.out.turn hg hp3)
            have B3 := Lib.hid (blk_call B2'.out hg (by simp; omega))
            have Z3 := Lib.hid (blk_call Z2'.out hg (by simp; omega))
            have HO3 := Lib.hid (hof.join (by omega) (by simp; omega))
            have HK3 := Lib.hid (hkm.join (by omega) (by simp; omega))
            have hi3 : i3 < C.toks.length := hp3.lt
            have hs9 := HS2.out nm r rfl
            rw [← hd3] at hs9
            simp at hs9
            have hz9 := hg.size
            have z8 : L1 < w3.heap.size := by omega
            obtain ⟨_, e0, e1, e2, e3, e4, e5, e6, e7⟩ := cells8_of w3 L1 _ _ _ _ _ _ _ _ _ B3.out
            have HD3 := Lib.hid hd3
            have hlt : C.toks.length - i3 < C.toks.length - i' := by omega
            have hm9 : C.toks.length - i3 < m := by omega
            clear hg hp3 hof hkm hd3 hs9 HFd
            unfold ndV
            go_wp2_with fail
            go_roundg (C.toks.length - i3)
            case measure => omega
            case rel =>
              have K := (Kept.refl (Sx w.heap.size [w.heap.size, L1]) w3).set8 (b := L1) (by simp) (.int .i64 (Nd.mk 8 nm 0 Ty.none [n']).kind) (.string ⟨(Nd.mk 8 nm 0 Ty.none [n']).text.toArray⟩) (.int .i64 (Nd.mk 8 nm 0 Ty.none [n']).num) (.int .i64 (Nd.mk 8 nm 0 Ty.none [n']).typ.kind) (.int .i64 (Nd.mk 8 nm 0 Ty.none [n']).typ.num) (.string ⟨(Nd.mk 8 nm 0 Ty.none [n']).typ.name.toArray⟩) (.slice oa on oc) (.slice ma mn mc)
              exact ⟨i3, m, .mk 8 nm 0 Ty.none [n'], oa, ma, on, oc, mn, mc, rfl, hi3, hm9, by simp [World.setCell]; omega, HA3.out.set8 (b := L1) (by omega) (.int .i64 (Nd.mk 8 nm 0 Ty.none [n']).kind) (.string ⟨(Nd.mk 8 nm 0 Ty.none [n']).text.toArray⟩) (.int .i64 (Nd.mk 8 nm 0 Ty.none [n']).num) (.int .i64 (Nd.mk 8 nm 0 Ty.none [n']).typ.kind) (.int .i64 (Nd.mk 8 nm 0 Ty.none [n']).typ.num) (.string ⟨(Nd.mk 8 nm 0 Ty.none [n']).typ.name.toArray⟩) (.slice oa on oc) (.slice ma mn mc), blk_set8 Z3.out hLw (.int .i64 (Nd.mk 8 nm 0 Ty.none [n']).kind) (.string ⟨(Nd.mk 8 nm 0 Ty.none [n']).text.toArray⟩) (.int .i64 (Nd.mk 8 nm 0 Ty.none [n']).num) (.int .i64 (Nd.mk 8 nm 0 Ty.none [n']).typ.kind) (.int .i64 (Nd.mk 8 nm 0 Ty.none [n']).typ.num) (.string ⟨(Nd.mk 8 nm 0 Ty.none [n']).typ.name.toArray⟩) (.slice oa on oc) (.slice ma mn mc), blk_put8 B3.out (.int .i64 (Nd.mk 8 nm 0 Ty.none [n']).kind) (.string ⟨(Nd.mk 8 nm 0 Ty.none [n']).text.toArray⟩) (.int .i64 (Nd.mk 8 nm 0 Ty.none [n']).num) (.int .i64 (Nd.mk 8 nm 0 Ty.none [n']).typ.kind) (.int .i64 (Nd.mk 8 nm 0 Ty.none [n']).typ.num) (.string ⟨(Nd.mk 8 nm 0 Ty.none [n']).typ.name.toArray⟩) (.slice oa on oc) (.slice ma mn mc), HO3.out.kept K, HK3.out.kept K, hE.out.trans ((loop_more (HPO.out.trans rfl)).trans (by rw [HD3.out]))⟩
          · rintro e w3 ⟨hg, i3, d3, rfl, hdd, hp3⟩
            exact ⟨rfl, (HA2'.out.turn hg hp3).errOut (by rw [HR1.out, PR.bind_ok]; exact hE.out.trans (loop_err (HPO.out.trans rfl)))⟩
        | false =>
        rw [g3, if_neg (by simp)] at hpost
        cases g4 : t.text == [40] with
        | true =>
          rw [g4, if_pos rfl] at hpost
          clear hfin
          have HPO := Lib.hid hpost
          clear hpost
          go_wp2_with fail
          refine HT.out.mono ?_
          rintro e w2 ⟨rfl, hg2⟩
          have HA7 := Lib.hid (hat.out.call hg2)
          have B7 := Lib.hid (blk_call hb1.out hg2 (by simp))
          have Z7 := Lib.hid (blk_call hb0.out hg2 (by simp))
          have K2' := Lib.hid ((Kept.refl (Sx w.heap.size [w.heap.size, L1]) wr).call0 hg2)
          have HO7 := Lib.hid (hO.out.kept K2'.out)
          have HK7 := Lib.hid (hK.out.kept K2'.out)
          have hz5 := hg2.size
          have z6 : L1 < w2.heap.size := by omega
          have z7 : w.heap.size < w2.heap.size := by omega
          obtain ⟨⟨q0, q1, q2, q3, q4, q5, q6, q7⟩, _⟩ := cells8_of w2 L1 _ _ _ _ _ _ _ _ _ B7.out
          have HN : Hid (∀ w, Pr C w i' d → Calls Tryz.prog 73 #[C.p, .func (.func 100) #[C.p] #[]] w (Out C w d (listP R.expr (C.toks.drop i')) (fun l => ndsVal l w))) := Lib.hid (fun w h => listN_expr C R.expr HL.out.shr.ex.shrinks w i' d HL.out.ex h)
          have HS2 := Lib.hid (fun a r => (Shr.list HL.out.shr.ex.le).shrinks (C.toks.drop i') a r (by simp; omega))
          have HLn := Lib.hid (fun a r (e : listP R.expr (C.toks.drop i') = .ok a r) => listP_len e)
          have hX2 := Lib.hid (show ∀ x ∈ [w.heap.size, L1], x < w2.heap.size by simp; omega)
          have hB2 : w.heap.size ≤ w2.heap.size := by omega
          clear HP HA0 HA1 HA2 HO1 HO2 HK1 HK2 B0 B1 B2 N1 hb0 hb1 hO hK hat HT HL K2' hg2
          generalize listP R.expr (C.toks.drop i') = R0 at *
          unfold tkV
          go_wp2_with fail
          go_region_law (first
            | (refine step_append_nodes (S' := (Sx w.heap.size [w.heap.size, L1])) rfl (.tmp 39) (.tmp 43) rfl rfl rfl HR.out.1 HR.out.2.1 HR.out.2.2.1 HR.out.2.2.2.1 HR.out.2.2.2.2.1 HR.out.2.2.2.2.2.1 hll ?_; intro a4 n4 c4 w4 hk4 hg4; have HG4 := Lib.hid (And.intro ((HF.out.1).app hg4 HR.out.2.2.2.2.2.2.1) (And.intro (blk_call HF.out.2.2.1 hg4 (HR.out.2.2.2.2.2.2.2 _ (by simp))) (And.intro (blk_call HF.out.2.2.2 hg4 (HR.out.2.2.2.2.2.2.2 _ (by simp))) hk4))); have hz4 := hg4.size; try simp at hz4)
            | (go_simp; go_at_call 73; (first
              | (refine (HN.out _ HA7.out.drew.pr).mono ?_; rcases R0 with ⟨l, r⟩ | ⟨p, er⟩; rotate_left; (rintro e wc ⟨hg, i2, d2, rfl, hdd, hp1⟩; exact ⟨rfl, (HA7.out.drew.turn hg hp1).errOut (by rw [HR1.out, PR.bind_ok]; exact hE.out.trans (loop_err (HPO.out.trans rfl)))⟩); rintro e wc ⟨hg, v1, i2, rfl, hlv, hp1, hd1⟩; obtain ⟨ba, bn, bc, rfl⟩ := RepK.isSlice hlv; have hz8 := hg.size; simp at hz8; have HR := Lib.hid (app_late (HO7.out.kept ((Kept.refl (Sx w.heap.size [w.heap.size, L1]) w2).drew.call hg hbp)) (HK7.out.kept ((Kept.refl (Sx w.heap.size [w.heap.size, L1]) w2).drew.call hg hbp)) (RepK.into hlv (B := w.heap.size) (X := [w.heap.size, L1]) hB2 hX2.out) (by omega) (fun x hx => Nat.lt_of_lt_of_le (hX2.out x hx) hz8)); have HF := Lib.hid (And.intro ((HA7.out.drew.turn hg hp1).alloc (.cells #[.int .i64 n'.kind, .string ⟨n'.text.toArray⟩, .int .i64 n'.num, .int .i64 n'.typ.kind, .int .i64 n'.typ.num, .string ⟨n'.typ.name.toArray⟩, .slice xa xn xc, .slice ya yn yc] 28 (0, 0))) (And.intro hd1 (And.intro (blk_alloc (blk_call B7.out (undrew hg) (by simp; omega)) (.cells #[.int .i64 n'.kind, .string ⟨n'.text.toArray⟩, .int .i64 n'.num, .int .i64 n'.typ.kind, .int .i64 n'.typ.num, .string ⟨n'.typ.name.toArray⟩, .slice xa xn xc, .slice ya yn yc] 28 (0, 0))) (blk_alloc (blk_call Z7.out (undrew hg) (by simp; omega)) (.cells #[.int .i64 n'.kind, .string ⟨n'.text.toArray⟩, .int .i64 n'.num, .int .i64 n'.typ.kind, .int .i64 n'.typ.num, .string ⟨n'.typ.name.toArray⟩, .slice xa xn xc, .slice ya yn yc] 28 (0, 0)))))); have hll : [n'].length + l.length ≤ 40004 := (by have := HLn.out l r rfl; simp at this ⊢; omega); obtain ⟨⟨p0, p1, p2, p3, p4, p5, p6, p7⟩, _⟩ := cells8_of wc L1 _ _ _ _ _ _ _ _ _ (blk_call B7.out (undrew hg) (by simp; omega)); have hz9 : L1 < wc.heap.size := (by omega); clear hg hp1 hlv)
              | (refine (HN.out _ (HA7.out.alloc (.cells #[.int .i64 n'.kind, .string ⟨n'.text.toArray⟩, .int .i64 n'.num, .int .i64 n'.typ.kind, .int .i64 n'.typ.num, .string ⟨n'.typ.name.toArray⟩, .slice xa xn xc, .slice ya yn yc] 28 (0, 0))).drew.pr).mono ?_; rcases R0 with ⟨l, r⟩ | ⟨p, er⟩; rotate_left; (rintro e wc ⟨hg, i2, d2, rfl, hdd, hp1⟩; exact ⟨rfl, ((HA7.out.alloc (.cells #[.int .i64 n'.kind, .string ⟨n'.text.toArray⟩, .int .i64 n'.num, .int .i64 n'.typ.kind, .int .i64 n'.typ.num, .string ⟨n'.typ.name.toArray⟩, .slice xa xn xc, .slice ya yn yc] 28 (0, 0))).drew.turn hg hp1).errOut (by rw [HR1.out, PR.bind_ok]; exact hE.out.trans (loop_err (HPO.out.trans rfl)))⟩); rintro e wc ⟨hg, v1, i2, rfl, hlv, hp1, hd1⟩; obtain ⟨ba, bn, bc, rfl⟩ := RepK.isSlice hlv; have hz8 := hg.size; simp at hz8; have HR := Lib.hid (app_early HO7.out HK7.out hB2 hX2.out hg hbp (hlv.mono (fun g hs _ => by simpa using hs) (fun _ _ _ => rfl))); have HF := Lib.hid (And.intro ((HA7.out.alloc (.cells #[.int .i64 n'.kind, .string ⟨n'.text.toArray⟩, .int .i64 n'.num, .int .i64 n'.typ.kind, .int .i64 n'.typ.num, .string ⟨n'.typ.name.toArray⟩, .slice xa xn xc, .slice ya yn yc] 28 (0, 0))).drew.turn hg hp1) (And.intro hd1 (And.intro (blk_call (blk_alloc B7.out (.cells #[.int .i64 n'.kind, .string ⟨n'.text.toArray⟩, .int .i64 n'.num, .int .i64 n'.typ.kind, .int .i64 n'.typ.num, .string ⟨n'.typ.name.toArray⟩, .slice xa xn xc, .slice ya yn yc] 28 (0, 0))) (undrew hg) (by simp; omega)) (blk_call (blk_alloc Z7.out (.cells #[.int .i64 n'.kind, .string ⟨n'.text.toArray⟩, .int .i64 n'.num, .int .i64 n'.typ.kind, .int .i64 n'.typ.num, .string ⟨n'.typ.name.toArray⟩, .slice xa xn xc, .slice ya yn yc] 28 (0, 0))) (undrew hg) (by simp; omega))))); have hll : [n'].length + l.length ≤ 40004 := (by have := HLn.out l r rfl; simp at this ⊢; omega); have hz9 : L1 < wc.heap.size := (by omega); clear hg hp1 hlv)))
            | (go_simp; go_at_call 95; refine (node_any 9 ([n'] ++ l) _ _ _ HG4.out.2.2.2).mono ?_; rintro e wd ⟨hgd, rfl, hrd⟩; have HG := Lib.hid (And.intro hgd hrd); obtain ⟨_, e0, e1, e2, e3, e4, e5, e6, e7⟩ := cells8_of wd L1 _ _ _ _ _ _ _ _ _ (blk_call HG4.out.2.1 hgd (by simp)); have hz7' := hgd.size; have z9 : L1 < wd.heap.size := (by omega); clear hgd hrd; unfold ndV))
          all_goals
            go_wp2_with fail
            have hd8 := HF.out.2.1
            have hs8 := HS2.out l r rfl
            rw [← hd8] at hs8
            have hi2 : i2 < C.toks.length := HF.out.1.pr.lt
            simp at hs8
            have hlt : C.toks.length - i2 < C.toks.length - i' := by omega
            have hm9 : C.toks.length - i2 < m := by omega
            go_roundg (C.toks.length - i2)
            case measure => omega
            case rel =>
              have K := (Kept.refl (Sx w.heap.size [w.heap.size, L1]) wd).set8 (b := L1) (by simp) (.int .i64 (Nd.of 9 ([n'] ++ l)).kind) (.string ⟨(Nd.of 9 ([n'] ++ l)).text.toArray⟩) (.int .i64 (Nd.of 9 ([n'] ++ l)).num) (.int .i64 (Nd.of 9 ([n'] ++ l)).typ.kind) (.int .i64 (Nd.of 9 ([n'] ++ l)).typ.num) (.string ⟨(Nd.of 9 ([n'] ++ l)).typ.name.toArray⟩) (.slice none 0 0) (.slice a4 n4 c4)
              exact ⟨i2, m, Nd.of 9 (n' :: l), none, a4, 0, 0, n4, c4, rfl, hi2, hm9, by simp [World.setCell]; omega, (HG4.out.1.call HG.out.1).set8 (b := L1) (by omega) (.int .i64 (Nd.of 9 ([n'] ++ l)).kind) (.string ⟨(Nd.of 9 ([n'] ++ l)).text.toArray⟩) (.int .i64 (Nd.of 9 ([n'] ++ l)).num) (.int .i64 (Nd.of 9 ([n'] ++ l)).typ.kind) (.int .i64 (Nd.of 9 ([n'] ++ l)).typ.num) (.string ⟨(Nd.of 9 ([n'] ++ l)).typ.name.toArray⟩) (.slice none 0 0) (.slice a4 n4 c4), blk_set8 (blk_call HG4.out.2.2.1 HG.out.1 (by simp)) hLw (.int .i64 (Nd.of 9 ([n'] ++ l)).kind) (.string ⟨(Nd.of 9 ([n'] ++ l)).text.toArray⟩) (.int .i64 (Nd.of 9 ([n'] ++ l)).num) (.int .i64 (Nd.of 9 ([n'] ++ l)).typ.kind) (.int .i64 (Nd.of 9 ([n'] ++ l)).typ.num) (.string ⟨(Nd.of 9 ([n'] ++ l)).typ.name.toArray⟩) (.slice none 0 0) (.slice a4 n4 c4), blk_put8 (blk_call HG4.out.2.1 HG.out.1 (by simp)) (.int .i64 (Nd.of 9 ([n'] ++ l)).kind) (.string ⟨(Nd.of 9 ([n'] ++ l)).text.toArray⟩) (.int .i64 (Nd.of 9 ([n'] ++ l)).num) (.int .i64 (Nd.of 9 ([n'] ++ l)).typ.kind) (.int .i64 (Nd.of 9 ([n'] ++ l)).typ.num) (.string ⟨(Nd.of 9 ([n'] ++ l)).typ.name.toArray⟩) (.slice none 0 0) (.slice a4 n4 c4), RepOf.nil _ _, HG.out.2.kept K, hE.out.trans ((loop_more (HPO.out.trans rfl)).trans (by rw [hd8]))⟩
        | false =>
        rw [g4, if_neg (by simp)] at hpost
        have HE := Lib.hid (hE.out.trans (loop_stop hpost))
        clear hpost hfin
        go_wp2_with fail
        refine HT.out.mono ?_
        rintro e w2 ⟨rfl, hg2⟩
        have HG2 := Lib.hid hg2
        obtain ⟨⟨q0, q1, q2, q3, q4, q5, q6, q7⟩, _⟩ := cells8_of w2 L1 _ _ _ _ _ _ _ _ _ (blk_call hb1.out hg2 (by simp))
        obtain ⟨⟨r0, r1, r2, r3, r4, r5, r6, r7⟩, e0, e1, e2, e3, e4, e5, e6, e7⟩ := cells8_of w2 w.heap.size _ _ _ _ _ _ _ _ _ (blk_call hb0.out hg2 (by simp))
        have hz5 := hg2.size
        have z6 : L1 < w2.heap.size := by omega
        have z7 : w.heap.size < w2.heap.size := by omega
        clear hg2
        unfold tkV
        go_wp2_with fail
        refine bodyPost_ret (v := ndV n' (.slice xa xn xc) (.slice ya yn yc)) (by simp [results, Tryz.results116, go_sem, r0, r1, r2, r3, r4, r5, r6, r7]; rfl) rfl ?_
        have HA9 := hat.out.call HG2.out
        have K := ((Kept.refl (Sx w.heap.size [w.heap.size, L1]) wr).call0 HG2.out).set8 (b := w.heap.size) (by simp) (.int .i64 n'.kind) (.string ⟨n'.text.toArray⟩) (.int .i64 n'.num) (.int .i64 n'.typ.kind) (.int .i64 n'.typ.num) (.string ⟨n'.typ.name.toArray⟩) (.slice xa xn xc) (.slice ya yn yc)
        exact (HA9.set8 (Nat.le_refl _) _ _ _ _ _ _ _ _).okOut (by rw [HR1.out, PR.bind_ok]; exact HE.out) ⟨_, _, rfl, (hO.out.kept K).out (Nat.le_refl _), (hK.out.kept K).out (Nat.le_refl _)⟩ rfl
end Go.Proofs.YtkbplcfehllbjaaGreatDoor
