/- Merged: Q22, Q23, Q24, Q25. -/
import Derived.Test.YtkbplcfehllbjaaGreatDoorMk7
/- leap, result. -/
namespace Go.Proofs.YtkbplcfehllbjaaGreatDoor
open Go.RowKit
attribute [local go_sem ↓] Go.wp_at_zero Go.wp_at_succ
theorem blk_put7 {w : World} {b t : Nat} {u0 u1 u2 u3 u4 u5 u6 u7 : Value} (h : w.heap[b]? = some (.cells #[u0, u1, u2, u3, u4, u5, u6, u7] t (0, 0))) (v : Value) : (w.setCell ⟨b, 7, none⟩ v).heap[b]? = some (.cells #[u0, u1, u2, u3, u4, u5, u6, v] t (0, 0)) := by
  simp [World.setCell, Array.getElem?_modify, h]
set_option maxRecDepth 100000 in
set_option maxHeartbeats 2000000 in
theorem leap_any (k : Int) (C : Ctx) (w : World) (i d : Nat) (h : Pr C w i d) (hl : i + 1 < C.toks.length) :
    Calls Tryz.prog 98 #[C.p, .int .i64 k] w (Out C w d (leapP k (C.toks.drop i)) (fun n => ndVal n w)) := by
  have HP := Lib.hid h.at
  have hbp := lt_of_heap h.blk
  have hlen := h.len
  have hp : C.p = .pointer (some ⟨C.bp, 0, none⟩) := rfl
  obtain ⟨c0, c1, c2, c3, f0, f1, f2, f3⟩ := cells4_of w C.bp _ _ _ _ _ h.blk
  unfold leapP
  rw [tl_at]
  have HW := Lib.hid (fun w' (h' : Pr C w' (i + 1) d) => want_any C w' (i + 1) d h' [59] (by simp))
  generalize wantP [59] (C.toks.drop (i + 1)) = R0 at HW ⊢
  clear h
  go_enter Tryz.func98, Tryz.ntmps98
  go_wp2_with fail
  have HA0 := Lib.hid ((HP.out.next hl (v := (i : Int) + 1) (by omega)).alloc (.cells #[.int .i64 0, .string ⟨#[]⟩, .int .i64 0, .int .i64 0, .int .i64 0, .string ⟨#[]⟩, .slice none 0 0, .slice none 0 0] 28))
  have B0 := Lib.hid (blk_new' w (.cells #[.int .i64 0, .string ⟨#[]⟩, .int .i64 0, .int .i64 0, .int .i64 0, .string ⟨#[]⟩, .slice none 0 0, .slice none 0 0] 28) ⟨C.bp, 1, none⟩ (.int .i64 ((i : Int) + 1)))
  have hz0 : w.heap.size < ((w.setCell ⟨C.bp, 1, none⟩ (.int .i64 ((i : Int) + 1))).alloc (.cells #[.int .i64 0, .string ⟨#[]⟩, .int .i64 0, .int .i64 0, .int .i64 0, .string ⟨#[]⟩, .slice none 0 0, .slice none 0 0] 28)).heap.size := by simp [World.setCell]
  refine (HW.out _ HA0.out.pr).mono ?_
  rcases R0 with ⟨u, r⟩ | ⟨p, er⟩
  · rintro e w1 ⟨hg, v1, i1, rfl, hv, hp1, hd1⟩
    have hv' : v1 = .tuple #[] := hv
    subst hv'
    have HA1 := Lib.hid (HA0.out.turn hg hp1)
    have B1 := Lib.hid (blk_call B0.out hg (by simp; omega))
    have HD := Lib.hid hd1
    have hz1 := hg.size
    clear hg hp1 hv hd1 c0 c1 c2 c3 f0 f1 f2 f3
    go_wp2_with fail
    refine (node_any k [] (.slice none 0 0) (fun g => w.heap.size ≤ g) w1 (RepK.nil _ _)).mono ?_
    rintro e w2 ⟨hg2, rfl, hr2⟩
    have HA2 := Lib.hid (HA1.out.call hg2)
    have B2 := Lib.hid (blk_call B1.out hg2 (by simp))
    obtain ⟨⟨r0, r1, r2, r3, r4, r5, r6, r7⟩, e0, e1, e2, e3, e4, e5, e6, e7⟩ := cells8_of w2 w.heap.size _ _ _ _ _ _ _ _ _ B2.out
    have hz2 := hg2.size
    have z2 : w.heap.size < w2.heap.size := by omega
    clear hg2 hr2
    unfold ndV
    go_wp2_with fail
    refine bodyPost_ret (v := ndV (Nd.of k []) (.slice none 0 0) (.slice none 0 0)) (by simp [results, Tryz.results98, go_sem, r0, r1, r2, r3, r4, r5, r6, r7]; rfl) rfl ?_
    exact (HA2.out.set8 (Nat.le_refl _) _ _ _ _ _ _ _ _).okOut rfl ⟨_, _, rfl, RepOf.nil _ _, RepK.nil _ _⟩ HD.out
  · rintro e w1 ⟨hg, i1, d1, rfl, hdd, hp1⟩
    exact ⟨rfl, (HA0.out.turn hg hp1).errOut rfl⟩
set_option maxRecDepth 100000 in
set_option maxHeartbeats 2000000 in
theorem result_any (C : Ctx) (d : Nat) (R : Rec) (L : Lev C d R) : RunsN 97 C d (resultP R) := by
  intro w i h
  have HP := Lib.hid h.at
  have hbp := lt_of_heap h.blk
  have HX := Lib.hid L.ex
  have hp : C.p = .pointer (some ⟨C.bp, 0, none⟩) := rfl
  unfold resultP
  have HW := Lib.hid (fun w' (h' : Pr C w' i d) => want_any C w' i d h' [114, 101, 116, 117, 114, 110] (by simp))
  generalize wantP [114, 101, 116, 117, 114, 110] (C.toks.drop i) = R0 at HW ⊢
  clear h L
  go_enter Tryz.func97, Tryz.ntmps97
  go_wp2_with fail
  have HA0 := Lib.hid ((HP.out.alloc (.cells #[.int .i64 0, .string ⟨#[]⟩, .int .i64 0, .int .i64 0, .int .i64 0, .string ⟨#[]⟩, .slice none 0 0, .slice none 0 0] 28)).alloc (.cells #[.int .i64 16, .string ⟨#[]⟩, .int .i64 0, .int .i64 0, .int .i64 0, .string ⟨#[]⟩, .slice none 0 0, .slice none 0 0] 28))
  have B0 := Lib.hid (blk_alloc (blk_new w (.cells #[.int .i64 0, .string ⟨#[]⟩, .int .i64 0, .int .i64 0, .int .i64 0, .string ⟨#[]⟩, .slice none 0 0, .slice none 0 0] 28)) (.cells #[.int .i64 16, .string ⟨#[]⟩, .int .i64 0, .int .i64 0, .int .i64 0, .string ⟨#[]⟩, .slice none 0 0, .slice none 0 0] 28))
  have N0 := Lib.hid (blk_new (w.alloc (.cells #[.int .i64 0, .string ⟨#[]⟩, .int .i64 0, .int .i64 0, .int .i64 0, .string ⟨#[]⟩, .slice none 0 0, .slice none 0 0] 28)) (.cells #[.int .i64 16, .string ⟨#[]⟩, .int .i64 0, .int .i64 0, .int .i64 0, .string ⟨#[]⟩, .slice none 0 0, .slice none 0 0] 28))
  rw [show (w.alloc (.cells #[.int .i64 0, .string ⟨#[]⟩, .int .i64 0, .int .i64 0, .int .i64 0, .string ⟨#[]⟩, .slice none 0 0, .slice none 0 0] 28)).heap.size = w.heap.size + 1 by simp] at N0
  refine (HW.out _ HA0.out.pr).mono ?_
  rcases R0 with ⟨u, r⟩ | ⟨p, er⟩
  · rintro e w1 ⟨hg, v1, i1, rfl, hv, hp1, rfl⟩
    have hv' : v1 = .tuple #[] := hv
    subst hv'
    have HA1 := Lib.hid (HA0.out.turn hg hp1)
    have B1 := Lib.hid (blk_call B0.out hg (by simp; omega))
    have N1 := Lib.hid (blk_call N0.out hg (by simp; omega))
    have hz1 := hg.size
    simp at hz1
    clear hg hp1 hv HA0 B0 N0 HP
    have hwL : w.heap.size < w.heap.size + 1 := by omega
    have hbL : C.bp < w.heap.size + 1 := by omega
    have hL1 : w.heap.size + 1 < w1.heap.size := by omega
    generalize w.heap.size + 1 = L1 at *
    have hwL' : ¬ w.heap.size = L1 := by omega
    have hLw' : L1 ≠ w.heap.size := by omega
    go_wp2_with fail
    cases hs : isP [59] (C.toks.drop i1) with
    | true =>
      refine (skip_yes C _ i1 d HA1.out.pr [59] (by simp) hs).mono ?_
      rintro e w2 ⟨rfl, hg, hp2⟩
      have HA2 := Lib.hid (HA1.out.turn hg hp2)
      obtain ⟨⟨r0, r1, r2, r3, r4, r5, r6, r7⟩, e0, e1, e2, e3, e4, e5, e6, e7⟩ := cells8_of w2 w.heap.size _ _ _ _ _ _ _ _ _ (blk_call B1.out hg (by simp; omega))
      obtain ⟨⟨q0, q1, q2, q3, q4, q5, q6, q7⟩, _⟩ := cells8_of w2 L1 _ _ _ _ _ _ _ _ _ (blk_call N1.out hg (by simp; omega))
      have hz2 := hg.size
      have z1 : w.heap.size < w2.heap.size := by omega
      have z2 : L1 < w2.heap.size := by omega
      have HS := Lib.hid hs
      clear hg hp2 hs
      go_wp2_with fail
      refine bodyPost_ret (v := ndV (Nd.of 16 []) (.slice none 0 0) (.slice none 0 0)) (by simp [results, Tryz.results97, go_sem, r0, r1, r2, r3, r4, r5, r6, r7]; rfl) rfl ?_
      exact (HA2.out.set8 (Nat.le_refl _) _ _ _ _ _ _ _ _).okOut (by rw [PR.bind_ok, if_pos HS.out, tl_at]) ⟨_, _, rfl, RepOf.nil _ _, RepK.nil _ _⟩ rfl
    | false =>
      refine (skip_no C _ i1 d HA1.out.pr [59] hs).mono ?_
      rintro e w2 ⟨rfl, hg⟩
      have HA2 := Lib.hid (HA1.out.call hg)
      have B2 := Lib.hid (blk_call B1.out hg (by simp))
      have N2 := Lib.hid (blk_call N1.out hg (by simp))
      have hz2 := hg.size
      have HS := Lib.hid hs
      clear hg hs HA1 B1 N1
      go_wp2_with fail
      have HC := Lib.hid (HX.out w2 i1 HA2.out.pr)
      generalize hR1 : R.expr (C.toks.drop i1) = R1 at HC
      refine HC.out.mono ?_
      rcases R1 with ⟨n, r⟩ | ⟨p, er⟩
      · rintro e w3 ⟨hg, v3, i3, rfl, ⟨ofv, kv, rfl, hof, hkv⟩, hp3, rfl⟩
        obtain ⟨sa, sn, sc, rfl⟩ := hof.isSlice
        obtain ⟨ka, kn, kc, rfl⟩ := hkv.isSlice
        have HA3 := Lib.hid (HA2.out.turn hg hp3)
        have B3 := Lib.hid (blk_call B2.out hg (by simp; omega))
        have N3 := Lib.hid (blk_call N2.out hg (by simp; omega))
        have HO3 := Lib.hid (hof.into (B := w.heap.size) (X := [w.heap.size, L1]) (by omega) (by simp; omega))
        have HK3 := Lib.hid (hkv.into (B := w.heap.size) (X := [w.heap.size, L1]) (by omega) (by simp; omega))
        have hz3 := hg.size
        have z3 : w.heap.size < w3.heap.size := by omega
        have z4 : L1 < w3.heap.size := by omega
        obtain ⟨_, e0, e1, e2, e3, e4, e5, e6, e7⟩ := cells8_of w3 L1 _ _ _ _ _ _ _ _ _ N3.out
        have HR1 := Lib.hid hR1
        clear hg hp3 hof hkv HC HA2 B2 N2 hR1
        unfold ndV
        go_wp2_with fail
        have HA4 := Lib.hid ((HA3.out.set (p := ⟨L1, 7, none⟩) (by simp; omega) (.slice (some ⟨w3.heap.size, 0, none⟩) 1 1)).alloc (.cells #[.int .i64 n.kind, .string ⟨n.text.toArray⟩, .int .i64 n.num, .int .i64 n.typ.kind, .int .i64 n.typ.num, .string ⟨n.typ.name.toArray⟩, .slice sa sn sc, .slice ka kn kc] 28))
        have B4 := Lib.hid (blk_alloc (blk_set B3.out (p := ⟨L1, 7, none⟩) hwL' (.slice (some ⟨w3.heap.size, 0, none⟩) 1 1)) (.cells #[.int .i64 n.kind, .string ⟨n.text.toArray⟩, .int .i64 n.num, .int .i64 n.typ.kind, .int .i64 n.typ.num, .string ⟨n.typ.name.toArray⟩, .slice sa sn sc, .slice ka kn kc] 28))
        have N4 := Lib.hid (blk_alloc (blk_put7 N3.out (.slice (some ⟨w3.heap.size, 0, none⟩) 1 1)) (.cells #[.int .i64 n.kind, .string ⟨n.text.toArray⟩, .int .i64 n.num, .int .i64 n.typ.kind, .int .i64 n.typ.num, .string ⟨n.typ.name.toArray⟩, .slice sa sn sc, .slice ka kn kc] 28))
        have K4 := Lib.hid (((Kept.refl (Sx w.heap.size [w.heap.size, L1]) w3).set (p := ⟨L1, 7, none⟩) (by simp) (.slice (some ⟨w3.heap.size, 0, none⟩) 1 1)).alloc (.cells #[.int .i64 n.kind, .string ⟨n.text.toArray⟩, .int .i64 n.num, .int .i64 n.typ.kind, .int .i64 n.typ.num, .string ⟨n.typ.name.toArray⟩, .slice sa sn sc, .slice ka kn kc] 28))
        have R4 := Lib.hid (RepK.one (HO3.out.kept K4.out) (HK3.out.kept K4.out) (blk_new' w3 (.cells #[.int .i64 n.kind, .string ⟨n.text.toArray⟩, .int .i64 n.num, .int .i64 n.typ.kind, .int .i64 n.typ.num, .string ⟨n.typ.name.toArray⟩, .slice sa sn sc, .slice ka kn kc] 28) ⟨L1, 7, none⟩ (.slice (some ⟨w3.heap.size, 0, none⟩) 1 1)) ⟨by omega, by simp; omega⟩)
        have hz4 : w3.heap.size < ((w3.setCell ⟨L1, 7, none⟩ (.slice (some ⟨w3.heap.size, 0, none⟩) 1 1)).alloc (.cells #[.int .i64 n.kind, .string ⟨n.text.toArray⟩, .int .i64 n.num, .int .i64 n.typ.kind, .int .i64 n.typ.num, .string ⟨n.typ.name.toArray⟩, .slice sa sn sc, .slice ka kn kc] 28)).heap.size := by simp [World.setCell]
        generalize (w3.setCell ⟨L1, 7, none⟩ (.slice (some ⟨w3.heap.size, 0, none⟩) 1 1)).alloc (.cells #[.int .i64 n.kind, .string ⟨n.text.toArray⟩, .int .i64 n.num, .int .i64 n.typ.kind, .int .i64 n.typ.num, .string ⟨n.typ.name.toArray⟩, .slice sa sn sc, .slice ka kn kc] 28) = W4 at *
        clear HA3 B3 N3 HO3 HK3 K4 e0 e1 e2 e3 e4 e5 e6 e7
        refine (want_any C _ i3 d HA4.out.pr [59] (by simp)).mono ?_
        generalize hR4 : wantP [59] (C.toks.drop i3) = R4'
        rcases R4' with ⟨u, r⟩ | ⟨p, er⟩
        · rintro e w5 ⟨hg, v5, i5, rfl, hv, hp5, hd5⟩
          have hv' : v5 = .tuple #[] := hv
          subst hv'
          have HA5 := Lib.hid (HA4.out.turn hg hp5)
          have K5 := Lib.hid ((Kept.refl (Sx w.heap.size [w.heap.size, L1]) W4).call hg hbp)
          obtain ⟨⟨r0, r1, r2, r3, r4, r5, r6, r7⟩, e0, e1, e2, e3, e4, e5, e6, e7⟩ := cells8_of w5 w.heap.size _ _ _ _ _ _ _ _ _ (blk_call B4.out hg (by simp; omega))
          obtain ⟨⟨q0, q1, q2, q3, q4, q5, q6, q7⟩, _⟩ := cells8_of w5 L1 _ _ _ _ _ _ _ _ _ (blk_call N4.out hg (by simp; omega))
          have hz5 := hg.size
          have z5 : w.heap.size < w5.heap.size := by omega
          have z6 : L1 < w5.heap.size := by omega
          have HR4 := Lib.hid hR4
          have HD := Lib.hid hd5
          clear hg hp5 hv hR4 hd5 z3 z4
          go_wp2_with fail
          refine bodyPost_ret (v := ndV (Nd.of 16 [n]) (.slice none 0 0) (.slice (some ⟨w3.heap.size, 0, none⟩) 1 1)) (by simp [results, Tryz.results97, go_sem, r0, r1, r2, r3, r4, r5, r6, r7]; rfl) rfl ?_
          exact (HA5.out.set8 (Nat.le_refl _) _ _ _ _ _ _ _ _).okOut (by rw [PR.bind_ok, if_neg (by rw [HS.out]; simp), HR1.out, PR.bind_ok, HR4.out]; rfl) ⟨_, _, rfl, RepOf.nil _ _, (R4.out.kept (K5.out.set8 (b := w.heap.size) (by simp) _ _ _ _ _ _ _ _)).out (Nat.le_refl _)⟩ HD.out
        · rintro e w5 ⟨hg, i5, d5, rfl, hdd, hp5⟩
          exact ⟨rfl, (HA4.out.turn hg hp5).errOut (by rw [PR.bind_ok, if_neg (by rw [HS.out]; simp), HR1.out, PR.bind_ok, hR4]; rfl)⟩
      · rintro e w3 ⟨hg, i3, d3, rfl, hdd, hp3⟩
        exact ⟨rfl, (HA2.out.turn hg hp3).errOut (by rw [PR.bind_ok, if_neg (by rw [HS.out]; simp), hR1]; rfl)⟩
  · rintro e w1 ⟨hg, i1, d1, rfl, hdd, hp1⟩
    exact ⟨rfl, (HA0.out.turn hg hp1).errOut rfl⟩
end Go.Proofs.YtkbplcfehllbjaaGreatDoor
/- block. -/
namespace Go.Proofs.YtkbplcfehllbjaaGreatDoor
open Go.RowKit
attribute [local go_sem ↓] Go.wp_at_zero Go.wp_at_succ
theorem ndC_ones (n : Nd) (sa ka : Option Addr) (sn sc kn kc : Nat) : ∀ u ∈ ndC n (.slice sa sn sc) (.slice ka kn kc), u.oneCell' = true := by
  intro u hu; simp [ndC] at hu; rcases hu with rfl | rfl | rfl | rfl | rfl | rfl | rfl | rfl <;> rfl
theorem GrowN.far {w : World} {B k : Nat} {v : Value} {l : List Nd} {cells : List Value} (h : GrowN w B v l cells) (hk : k < B) : v.ownBlock ≠ some k := fun e => by have := (h.lt k e).1; omega
theorem GrowN.set {w : World} {B : Nat} {v : Value} {l : List Nd} {cells : List Value} (h : GrowN w B v l cells) {p : Addr} (hp : p.block < B) (u : Value) : GrowN (w.setCell p u) B v l cells :=
  ⟨ownsRow_same h.1 (fun g hg => Below.heap_setCell w p u g (by have := (h.lt g hg).1; omega)), RepNl.mono (fun _ hs _ => hs) (fun k hs hk => Below.heap_setCell w p u k (by have := hs.1; omega)) l cells h.2⟩
set_option maxRecDepth 100000 in
set_option maxHeartbeats 4000000 in
theorem block_any (C : Ctx) (d : Nat) (R : Rec) (L : Lev C d R) : RunsN 76 C d (blockP R) := by
  intro w i h
  have HP := Lib.hid h.at
  have hbp := lt_of_heap h.blk
  have hlen := h.len
  have HX := Lib.hid L.st
  have HSh := Lib.hid L.shr.st.shrinks
  have hp : C.p = .pointer (some ⟨C.bp, 0, none⟩) := rfl
  unfold blockP
  have HW := Lib.hid (fun w' (h' : Pr C w' i d) => want_any C w' i d h' [123] (by simp))
  generalize wantP [123] (C.toks.drop i) = R0 at HW ⊢
  clear h L
  go_enter Tryz.func76, Tryz.ntmps76
  go_wp2_with fail
  have HA0 := Lib.hid ((HP.out.alloc (.cells #[.int .i64 0, .string ⟨#[]⟩, .int .i64 0, .int .i64 0, .int .i64 0, .string ⟨#[]⟩, .slice none 0 0, .slice none 0 0] 28)).alloc (.cells #[.int .i64 17, .string ⟨#[]⟩, .int .i64 0, .int .i64 0, .int .i64 0, .string ⟨#[]⟩, .slice none 0 0, .slice none 0 0] 28))
  have B0 := Lib.hid (blk_alloc (blk_new w (.cells #[.int .i64 0, .string ⟨#[]⟩, .int .i64 0, .int .i64 0, .int .i64 0, .string ⟨#[]⟩, .slice none 0 0, .slice none 0 0] 28)) (.cells #[.int .i64 17, .string ⟨#[]⟩, .int .i64 0, .int .i64 0, .int .i64 0, .string ⟨#[]⟩, .slice none 0 0, .slice none 0 0] 28))
  have N0 := Lib.hid (blk_new (w.alloc (.cells #[.int .i64 0, .string ⟨#[]⟩, .int .i64 0, .int .i64 0, .int .i64 0, .string ⟨#[]⟩, .slice none 0 0, .slice none 0 0] 28)) (.cells #[.int .i64 17, .string ⟨#[]⟩, .int .i64 0, .int .i64 0, .int .i64 0, .string ⟨#[]⟩, .slice none 0 0, .slice none 0 0] 28))
  rw [show (w.alloc (.cells #[.int .i64 0, .string ⟨#[]⟩, .int .i64 0, .int .i64 0, .int .i64 0, .string ⟨#[]⟩, .slice none 0 0, .slice none 0 0] 28)).heap.size = w.heap.size + 1 by simp] at N0
  refine (HW.out _ HA0.out.pr).mono ?_
  rcases R0 with ⟨u, r⟩ | ⟨p, er⟩
  · rintro e w1 ⟨hg, v1, i1, rfl, hv, hp1, rfl⟩
    have hv' : v1 = .tuple #[] := hv
    subst hv'
    have HA1 := Lib.hid (HA0.out.turn hg hp1)
    have B1 := Lib.hid (blk_call B0.out hg (by simp; omega))
    have N1 := Lib.hid (blk_call N0.out hg (by simp; omega))
    have hz1 := hg.size
    simp at hz1
    have hi1 := hp1.lt
    clear hg hp1 hv HA0 B0 N0 HP HW
    have hwL : w.heap.size < w.heap.size + 1 := by omega
    have hbL : C.bp < w.heap.size + 1 := by omega
    have hL1 : w.heap.size + 1 < w1.heap.size := by omega
    generalize w.heap.size + 1 = L1 at *
    have hwL' : ¬ w.heap.size = L1 := by omega
    have hLb : ¬ L1 = C.bp := by omega
    have hwb : ¬ w.heap.size = C.bp := by omega
    go_wp2_with fail
    go_loopg [] (C.toks.length - i1) (fun g wr => ∃ (i' m : Nat) (l : List Nd) (va : Option Addr) (vn vc : Nat) (cells : List Value), g = C.toks.length - i' ∧ i' < C.toks.length ∧ C.toks.length - i' < m ∧ l.length ≤ i' ∧ L1 < wr.heap.size ∧ Hid (At C w wr i' d) ∧ Hid (wr.heap[w.heap.size]? = some (.cells #[.int .i64 0, .string ⟨#[]⟩, .int .i64 0, .int .i64 0, .int .i64 0, .string ⟨#[]⟩, .slice none 0 0, .slice none 0 0] 28)) ∧
      Hid (wr.heap[L1]? = some (.cells #[.int .i64 17, .string ⟨#[]⟩, .int .i64 0, .int .i64 0, .int .i64 0, .string ⟨#[]⟩, .slice none 0 0, .slice va vn vc] 28)) ∧ Hid (GrowN wr (L1 + 1) (.slice va vn vc) l cells) ∧ Hid (loopP (blockStep R) ((C.toks.drop i1).length + 1) [] (C.toks.drop i1) = loopP (blockStep R) m l (C.toks.drop i')))
    case atStart => exact ⟨i1, (C.toks.drop i1).length + 1, [], none, 0, 0, [], rfl, hi1, by simp, by simp, hL1, HA1.out, B1.out, N1.out, GrowN.nil _ _, rfl⟩
    case round =>
      obtain ⟨i', m, l, va, vn, vc, cells, rfl, hi', hm, hll, hLz, hat, hb0, hb1, hG, hE⟩ := hrel
      obtain ⟨m, rfl⟩ : ∃ k, m = k + 1 := ⟨m - 1, by omega⟩
      clear HA1 B1 N1
      cases hs : isP [125] (C.toks.drop i') with
      | true =>
        have hst : blockStep R l (C.toks.drop i') = .ok (.inr l) (C.toks.drop (i' + 1)) := by unfold blockStep; rw [if_pos hs, tl_at]
        have HE := Lib.hid (hE.out.trans (loop_stop hst))
        have HY := Lib.hid (fun w' (h' : Pr C w' i' d) => skip_yes C w' i' d h' [125] (by simp) hs)
        clear hs hst
        go_wp2_with fail
        refine (HY.out _ hat.out.pr).mono ?_
        rintro e w2 ⟨rfl, hg, hp2⟩
        have HA2 := Lib.hid (hat.out.turn hg hp2)
        obtain ⟨⟨r0, r1, r2, r3, r4, r5, r6, r7⟩, e0, e1, e2, e3, e4, e5, e6, e7⟩ := cells8_of w2 w.heap.size _ _ _ _ _ _ _ _ _ (blk_call hb0.out hg (by simp; omega))
        obtain ⟨⟨q0, q1, q2, q3, q4, q5, q6, q7⟩, _⟩ := cells8_of w2 L1 _ _ _ _ _ _ _ _ _ (blk_call hb1.out hg (by simp; omega))
        have hz2 := hg.size
        have z1 : w.heap.size < w2.heap.size := by omega
        have z2 : L1 < w2.heap.size := by omega
        have HK := Lib.hid (((hG.out.call hg (by omega)).done).mono (S' := Sx w.heap.size [w.heap.size]) (fun g hs _ => ⟨by omega, by simp; omega⟩) (fun _ _ _ => rfl))
        clear hg hp2
        go_wp2_with fail
        refine bodyPost_ret (v := ndV (Nd.of 17 l) (.slice none 0 0) (.slice va vn vc)) (by simp [results, Tryz.results76, go_sem, r0, r1, r2, r3, r4, r5, r6, r7]; rfl) rfl ?_
        exact (HA2.out.set8 (Nat.le_refl _) _ _ _ _ _ _ _ _).okOut (by rw [PR.bind_ok, HE.out]; rfl) ⟨_, _, rfl, RepOf.nil _ _, (HK.out.kept ((Kept.refl _ _).set8 (b := w.heap.size) (by simp) _ _ _ _ _ _ _ _)).out (Nat.le_refl _)⟩ rfl
      | false =>
        have hst : blockStep R l (C.toks.drop i') = (R.stmt (C.toks.drop i')).bind fun n r => .ok (.inl (l ++ [n])) r := by unfold blockStep; rw [if_neg (by rw [hs]; simp)]
        have HST := Lib.hid hst
        have HN := Lib.hid (fun w' (h' : Pr C w' i' d) => skip_no C w' i' d h' [125] hs)
        have HR := Lib.hid (fun w h => HX.out w i' h)
        have HS2 := Lib.hid (fun a r => HSh.out (C.toks.drop i') a r (by simp; omega))
        obtain ⟨i0, hi, hz0, hz1', hz2'⟩ := info_parts infoNd
        clear hs hst
        go_wp2_with fail
        refine (HN.out _ hat.out.pr).mono ?_
        rintro e w2 ⟨rfl, hg⟩
        have HA2 := Lib.hid (hat.out.call hg)
        have Z2 := Lib.hid (blk_call hb0.out hg (by simp))
        have B2 := Lib.hid (blk_call hb1.out hg (by simp))
        have HG2 := Lib.hid (hG.out.call0 hg)
        obtain ⟨⟨q0, q1, q2, q3, q4, q5, q6, q7⟩, _⟩ := cells8_of w2 L1 _ _ _ _ _ _ _ _ _ B2.out
        have hz2 := hg.size
        have z2 : L1 < w2.heap.size := by omega
        have hown := Lib.hid (fun k hk => (HG2.out.lt k hk).2)
        have hmax : l.length + 1 ≤ maxLen := by unfold maxLen; omega
        have hbytes : (l.length + 1) * 112 ≤ 140737488355328 := by omega
        clear hg hat hb0 hb1 hG HN
        generalize R.stmt (C.toks.drop i') = R0 at *
        go_wp2_with fail
        go_region_law (first
          | (refine step_append_lies _ rfl (.tmp 11) (.tmp 14) 26 rfl (L1 + 1) 28 i0 _ 8 112 Tryz.underlying26 hi hz0 hz1' hz2' rfl (by decide) _ l.length cells rfl (HF.out.2.2.2.2.1.call0 (gr_alloc (grownBy_refl _ _) _)).1 ⟨wc.heap.size, 0, none⟩ 1 1 (ndC a (.slice sa sn sc) (.slice ka kn kc)) rfl rfl (cells_at _ _ _ _) (ndC_ones _ _ _ _ _ _ _) (by omega) hmax hbytes (by simp; omega) (wc.heap.size + 1) (by simp) ?_; intro gg cap w4 hown' hgrow hat' hlt'; have HG4 := Lib.hid (And.intro (GrowN.push (HF.out.2.2.2.2.1.call0 (gr_alloc (grownBy_refl _ _) _)) (HF.out.2.2.2.2.2.1.grow (gr_alloc (grownBy_refl _ _) _)) (HF.out.2.2.2.2.2.2.grow (gr_alloc (grownBy_refl _ _) _)) hown' hgrow hat' (by simp)) (And.intro ((HF.out.1.alloc _).app hgrow (fun k hk => by have := (HF.out.2.2.2.2.1.lt k hk).1; omega)) (And.intro (blk_call (blk_alloc HF.out.2.2.1 _) hgrow (HF.out.2.2.2.2.1.far (by omega))) (blk_call (blk_alloc HF.out.2.2.2.1 _) hgrow (HF.out.2.2.2.2.1.far (by omega)))))); obtain ⟨_, e0, e1, e2, e3, e4, e5, e6, e7⟩ := cells8_of w4 L1 _ _ _ _ _ _ _ _ _ HG4.out.2.2.1; have hz4 := hgrow.size; simp at hz4; have z4 : L1 < w4.heap.size := (by omega); clear hown' hgrow hat' hlt')
          | (go_simp; go_at_call 89; refine (HR.out _ HA2.out.drew.pr).mono ?_; rcases R0 with ⟨a, r⟩ | ⟨p, er⟩; rotate_left; (rintro e wc ⟨hg, i2, d2, rfl, hdd, hp1⟩; exact ⟨rfl, (HA2.out.drew.turn hg hp1).errOut (by rw [PR.bind_ok, hE.out, loop_err (HST.out.trans rfl)]; rfl)⟩); rintro e wc ⟨hg, v1, i2, rfl, ⟨ofm, km, rfl, hof, hkm⟩, hp1, hd1⟩; obtain ⟨sa, sn, sc, rfl⟩ := hof.isSlice; obtain ⟨ka, kn, kc, rfl⟩ := hkm.isSlice; have hz8 := hg.size; simp at hz8; have HF := Lib.hid (And.intro (HA2.out.drew.turn hg hp1) (And.intro hd1 (And.intro (blk_call B2.out (undrew hg) (by simp; omega)) (And.intro (blk_call Z2.out (undrew hg) (by simp; omega)) (And.intro (HG2.out.call (undrew hg) (by omega)) (And.intro (GrowT.fresh hof (B := L1 + 1) (v := .slice va vn vc) (by simp; omega) (by simpa using hown.out)) (GrowN.freshK hkm (B := L1 + 1) (v := .slice va vn vc) (by simp; omega) (by simpa using hown.out)))))))); obtain ⟨⟨p0, p1, p2, p3, p4, p5, p6, p7⟩, _⟩ := cells8_of wc L1 _ _ _ _ _ _ _ _ _ HF.out.2.2.1; have hz9 : L1 < wc.heap.size := (by omega); clear hg hp1 hof hkm; unfold ndV))
        all_goals
          go_wp2_with fail
          have hd8 := HF.out.2.1
          have hs8 := HS2.out a r rfl
          rw [← hd8] at hs8
          have hi2 : i2 < C.toks.length := HF.out.1.pr.lt
          simp at hs8
          have hlt : C.toks.length - i2 < C.toks.length - i' := by omega
          have hm9 : C.toks.length - i2 < m := by omega
          have hl9 : (l ++ [a]).length ≤ i2 := by simp; omega
          go_roundg (C.toks.length - i2)
          case measure => omega
          case rel =>
            refine ⟨i2, m, l ++ [a], some ⟨gg, 0, none⟩, l.length + 1, cap, cells ++ ndC a (.slice sa sn sc) (.slice ka kn kc), rfl, hi2, hm9, hl9, by simp [World.setCell]; omega, HG4.out.2.1.set (p := ⟨L1, 7, none⟩) (by simp; omega) _, blk_set HG4.out.2.2.2 hwL' _, blk_put7 HG4.out.2.2.1 _, ?_, hE.out.trans ((loop_more (HST.out.trans rfl)).trans (by rw [hd8]))⟩
            exact GrowN.set HG4.out.1 (by simp) _
  · rintro e w1 ⟨hg, i1, d1, rfl, hdd, hp1⟩
    exact ⟨rfl, (HA0.out.turn hg hp1).errOut rfl⟩
end Go.Proofs.YtkbplcfehllbjaaGreatDoor
/- choice. -/
namespace Go.Proofs.YtkbplcfehllbjaaGreatDoor
open Go.RowKit
attribute [local go_sem ↓] Go.wp_at_zero Go.wp_at_succ
theorem row_two {w : World} {n m : Nd} {ofv kv ofm km : Value} {L : Nat} (hb : w.heap[L]? = some (.cells #[.int .i64 n.kind, .string ⟨n.text.toArray⟩, .int .i64 n.num, .int .i64 n.typ.kind, .int .i64 n.typ.num, .string ⟨n.typ.name.toArray⟩, ofv, kv, .int .i64 m.kind, .string ⟨m.text.toArray⟩, .int .i64 m.num, .int .i64 m.typ.kind, .int .i64 m.typ.num, .string ⟨m.typ.name.toArray⟩, ofm, km] 28 (0, 0))) :
    w.ownsRow 0 28 8 (.slice (some ⟨L, 0, none⟩) 2 2) [n, m].length (ndC n ofv kv ++ ndC m ofm km) :=
  ⟨rfl, .inr ⟨L, 2, _, rfl, Nat.zero_le _, hb, Nat.le_refl _, by unfold maxLen; omega, rfl, rfl⟩⟩
theorem tail_choice {C : Ctx} {w0 wc : World} {i d B L1 g0 : Nat} {rest : List T4} {o1 o2 : Obj} {c a : Nd} (b : Nd) {sa ka oa ma xa ya : Option Addr} {sn sc kn kc on oc mn mc xn xc yn yc : Nat} (h1 : At C w0 wc i d) (h2 : C.toks.drop i = rest)
    (h3 : wc.heap[L1]? = some o1) (h4 : wc.heap[B]? = some o2) (h5 : wc.heap[g0]? = some (.cells #[.int .i64 c.kind, .string ⟨c.text.toArray⟩, .int .i64 c.num, .int .i64 c.typ.kind, .int .i64 c.typ.num, .string ⟨c.typ.name.toArray⟩, .slice sa sn sc, .slice ka kn kc, .int .i64 a.kind, .string ⟨a.text.toArray⟩, .int .i64 a.num, .int .i64 a.typ.kind, .int .i64 a.typ.num, .string ⟨a.typ.name.toArray⟩, .slice oa on oc, .slice ma mn mc] 28 (0, 0)))
    (h6 : RepOf wc (Sx B [B, L1, g0]) (.slice sa sn sc) c.typ.of) (h7 : RepK wc (Sx B [B, L1, g0]) (.slice ka kn kc) c.kids) (h8 : RepOf wc (Sx B [B, L1, g0]) (.slice oa on oc) a.typ.of) (h9 : RepK wc (Sx B [B, L1, g0]) (.slice ma mn mc) a.kids)
    (h10 : RepOf wc (fun g => L1 + 1 ≤ g) (.slice xa xn xc) b.typ.of) (h11 : RepK wc (fun g => L1 + 1 ≤ g) (.slice ya yn yc) b.kids) (hB : B < g0) (hg : g0 < L1) (hL : L1 < wc.heap.size) :
    At C w0 (wc.alloc (.cells #[.int .i64 b.kind, .string ⟨b.text.toArray⟩, .int .i64 b.num, .int .i64 b.typ.kind, .int .i64 b.typ.num, .string ⟨b.typ.name.toArray⟩, .slice xa xn xc, .slice ya yn yc] 28)) i d ∧ C.toks.drop i = rest ∧ (wc.alloc (.cells #[.int .i64 b.kind, .string ⟨b.text.toArray⟩, .int .i64 b.num, .int .i64 b.typ.kind, .int .i64 b.typ.num, .string ⟨b.typ.name.toArray⟩, .slice xa xn xc, .slice ya yn yc] 28)).heap[L1]? = some o1 ∧ (wc.alloc (.cells #[.int .i64 b.kind, .string ⟨b.text.toArray⟩, .int .i64 b.num, .int .i64 b.typ.kind, .int .i64 b.typ.num, .string ⟨b.typ.name.toArray⟩, .slice xa xn xc, .slice ya yn yc] 28)).heap[B]? = some o2 ∧ (wc.alloc (.cells #[.int .i64 b.kind, .string ⟨b.text.toArray⟩, .int .i64 b.num, .int .i64 b.typ.kind, .int .i64 b.typ.num, .string ⟨b.typ.name.toArray⟩, .slice xa xn xc, .slice ya yn yc] 28)).heap[g0]? = some (.cells #[.int .i64 c.kind, .string ⟨c.text.toArray⟩, .int .i64 c.num, .int .i64 c.typ.kind, .int .i64 c.typ.num, .string ⟨c.typ.name.toArray⟩, .slice sa sn sc, .slice ka kn kc, .int .i64 a.kind, .string ⟨a.text.toArray⟩, .int .i64 a.num, .int .i64 a.typ.kind, .int .i64 a.typ.num, .string ⟨a.typ.name.toArray⟩, .slice oa on oc, .slice ma mn mc] 28 (0, 0)) ∧
      RepNl (wc.alloc (.cells #[.int .i64 b.kind, .string ⟨b.text.toArray⟩, .int .i64 b.num, .int .i64 b.typ.kind, .int .i64 b.typ.num, .string ⟨b.typ.name.toArray⟩, .slice xa xn xc, .slice ya yn yc] 28)) (Sx B [B, L1, g0]) [c, a] (ndC c (.slice sa sn sc) (.slice ka kn kc) ++ ndC a (.slice oa on oc) (.slice ma mn mc)) ∧ RepK (wc.alloc (.cells #[.int .i64 b.kind, .string ⟨b.text.toArray⟩, .int .i64 b.num, .int .i64 b.typ.kind, .int .i64 b.typ.num, .string ⟨b.typ.name.toArray⟩, .slice xa xn xc, .slice ya yn yc] 28)) (Sx B [B, L1, g0]) (.slice (some ⟨wc.heap.size, 0, none⟩) 1 1) [b] := by
  have K := (Kept.refl (Sx B [B, L1, g0]) wc).alloc (.cells #[.int .i64 b.kind, .string ⟨b.text.toArray⟩, .int .i64 b.num, .int .i64 b.typ.kind, .int .i64 b.typ.num, .string ⟨b.typ.name.toArray⟩, .slice xa xn xc, .slice ya yn yc] 28)
  refine ⟨h1.alloc _, h2, blk_alloc h3 _, blk_alloc h4 _, blk_alloc h5 _, ⟨ndC c (.slice sa sn sc) (.slice ka kn kc), ndC a (.slice oa on oc) (.slice ma mn mc), rfl, RepN.of (h6.kept K) (h7.kept K), ⟨ndC a (.slice oa on oc) (.slice ma mn mc), [], by simp, RepN.of (h8.kept K) (h9.kept K), rfl⟩⟩, ?_⟩
  exact RepK.one ((h10.mono (S' := Sx B [B, L1, g0]) (fun g hs _ => ⟨by omega, by simp; omega⟩) (fun _ _ _ => rfl)).kept K) ((h11.mono (S' := Sx B [B, L1, g0]) (fun g hs _ => ⟨by omega, by simp; omega⟩) (fun _ _ _ => rfl)).kept K) (blk_new wc _) ⟨by omega, by simp; omega⟩
set_option maxRecDepth 100000 in
set_option maxHeartbeats 4000000 in
theorem choice_any (C : Ctx) (d : Nat) (R : Rec) (L : Lev C d R) : RunsN 94 C d (choiceP R) := by
  intro w i h
  have HP := Lib.hid h.at
  have hbp := lt_of_heap h.blk
  have HL := Lib.hid L
  have hp : C.p = .pointer (some ⟨C.bp, 0, none⟩) := rfl
  unfold choiceP
  have HW := Lib.hid (fun w' (h' : Pr C w' i d) => want_any C w' i d h' [105, 102] (by simp))
  generalize wantP [105, 102] (C.toks.drop i) = R0 at HW ⊢
  clear h L
  go_enter Tryz.func94, Tryz.ntmps94
  go_wp2_with fail
  have HA0 := Lib.hid (HP.out.alloc (.cells #[.int .i64 0, .string ⟨#[]⟩, .int .i64 0, .int .i64 0, .int .i64 0, .string ⟨#[]⟩, .slice none 0 0, .slice none 0 0] 28))
  have B0 := Lib.hid (blk_new w (.cells #[.int .i64 0, .string ⟨#[]⟩, .int .i64 0, .int .i64 0, .int .i64 0, .string ⟨#[]⟩, .slice none 0 0, .slice none 0 0] 28))
  refine (HW.out _ HA0.out.pr).mono ?_
  rcases R0 with ⟨u, r⟩ | ⟨p, er⟩
  rotate_left
  · rintro e w1 ⟨hg, i1, d1, rfl, hdd, hp1⟩
    exact ⟨rfl, (HA0.out.turn hg hp1).errOut rfl⟩
  rintro e w1 ⟨hg, v1, i1, rfl, hv, hp1, rfl⟩
  have hv' : v1 = .tuple #[] := hv
  subst hv'
  have HA1 := Lib.hid (HA0.out.turn hg hp1)
  have Z1 := Lib.hid (blk_call B0.out hg (by simp; omega))
  have hz1 := hg.size
  simp at hz1
  clear hg hp1 hv HA0 B0 HP HW
  go_wp2_with fail
  have HC := Lib.hid (condition_any C d R HL.out w1 i1 HA1.out.pr)
  generalize hRc : conditionP R (C.toks.drop i1) = Rc at HC
  refine HC.out.mono ?_
  rcases Rc with ⟨c, r⟩ | ⟨p, er⟩
  rotate_left
  · rintro e w2 ⟨hg, i2, d2, rfl, hdd, hp2⟩
    exact ⟨rfl, (HA1.out.turn hg hp2).errOut (by rw [PR.bind_ok, hRc]; rfl)⟩
  rintro e w2 ⟨hg, v2, i2, rfl, ⟨ofc, kc, rfl, hof, hkv⟩, hp2, rfl⟩
  obtain ⟨sa, sn, sc, rfl⟩ := hof.isSlice
  obtain ⟨ka, kn, kc, rfl⟩ := hkv.isSlice
  have HA2 := Lib.hid (HA1.out.turn hg hp2)
  have Z2 := Lib.hid (blk_call Z1.out hg (by simp; omega))
  have HO2 := Lib.hid (hof.mono (S' := fun g => w.heap.size + 1 ≤ g) (fun g hs _ => by omega) (fun _ _ _ => rfl))
  have HK2 := Lib.hid (hkv.mono (S' := fun g => w.heap.size + 1 ≤ g) (fun g hs _ => by omega) (fun _ _ _ => rfl))
  have HRc := Lib.hid hRc
  have hz2 := hg.size
  clear hg hp2 hof hkv hRc HC HA1 Z1
  unfold ndV
  go_wp2_with fail
  have HC := Lib.hid (HL.out.st w2 i2 HA2.out.pr)
  generalize hRs : R.stmt (C.toks.drop i2) = Rs at HC
  refine HC.out.mono ?_
  rcases Rs with ⟨a, r⟩ | ⟨p, er⟩
  rotate_left
  · rintro e w3 ⟨hg, i3, d3, rfl, hdd, hp3⟩
    exact ⟨rfl, (HA2.out.turn hg hp3).errOut (by rw [PR.bind_ok, HRc.out, PR.bind_ok, hRs]; rfl)⟩
  rintro e w3 ⟨hg, v3, i3, rfl, ⟨ofa, kva, rfl, hof, hkv⟩, hp3, rfl⟩
  obtain ⟨oa, on, oc, rfl⟩ := hof.isSlice
  obtain ⟨ma, mn, mc, rfl⟩ := hkv.isSlice
  have HA3 := Lib.hid (HA2.out.turn hg hp3)
  have Z3 := Lib.hid (blk_call Z2.out hg (by simp; omega))
  have HO3 := Lib.hid (HO2.out.mono (S' := fun g => w.heap.size + 1 ≤ g) (fun g hs _ => hs) (fun k hs hk => hg.block k hk (by simp; omega)))
  have HK3 := Lib.hid (HK2.out.mono (S' := fun g => w.heap.size + 1 ≤ g) (fun g hs _ => hs) (fun k hs hk => hg.block k hk (by simp; omega)))
  have HO4 := Lib.hid (hof.mono (S' := fun g => w.heap.size + 1 ≤ g) (fun g hs _ => by omega) (fun _ _ _ => rfl))
  have HK4 := Lib.hid (hkv.mono (S' := fun g => w.heap.size + 1 ≤ g) (fun g hs _ => by omega) (fun _ _ _ => rfl))
  have HRs := Lib.hid hRs
  have hz3 := hg.size
  clear hg hp3 hof hkv hRs HC HA2 Z2 HO2 HK2
  unfold ndV
  go_wp2_with fail
  have HT := Lib.hid (RepK.two (HO3.out.kept ((Kept.refl _ w3).alloc (.cells #[.int .i64 c.kind, .string ⟨c.text.toArray⟩, .int .i64 c.num, .int .i64 c.typ.kind, .int .i64 c.typ.num, .string ⟨c.typ.name.toArray⟩, .slice sa sn sc, .slice ka kn kc, .int .i64 a.kind, .string ⟨a.text.toArray⟩, .int .i64 a.num, .int .i64 a.typ.kind, .int .i64 a.typ.num, .string ⟨a.typ.name.toArray⟩, .slice oa on oc, .slice ma mn mc] 28 (0, 0)))) (HK3.out.kept ((Kept.refl _ w3).alloc (.cells #[.int .i64 c.kind, .string ⟨c.text.toArray⟩, .int .i64 c.num, .int .i64 c.typ.kind, .int .i64 c.typ.num, .string ⟨c.typ.name.toArray⟩, .slice sa sn sc, .slice ka kn kc, .int .i64 a.kind, .string ⟨a.text.toArray⟩, .int .i64 a.num, .int .i64 a.typ.kind, .int .i64 a.typ.num, .string ⟨a.typ.name.toArray⟩, .slice oa on oc, .slice ma mn mc] 28 (0, 0)))) (HO4.out.kept ((Kept.refl _ w3).alloc (.cells #[.int .i64 c.kind, .string ⟨c.text.toArray⟩, .int .i64 c.num, .int .i64 c.typ.kind, .int .i64 c.typ.num, .string ⟨c.typ.name.toArray⟩, .slice sa sn sc, .slice ka kn kc, .int .i64 a.kind, .string ⟨a.text.toArray⟩, .int .i64 a.num, .int .i64 a.typ.kind, .int .i64 a.typ.num, .string ⟨a.typ.name.toArray⟩, .slice oa on oc, .slice ma mn mc] 28 (0, 0)))) (HK4.out.kept ((Kept.refl _ w3).alloc (.cells #[.int .i64 c.kind, .string ⟨c.text.toArray⟩, .int .i64 c.num, .int .i64 c.typ.kind, .int .i64 c.typ.num, .string ⟨c.typ.name.toArray⟩, .slice sa sn sc, .slice ka kn kc, .int .i64 a.kind, .string ⟨a.text.toArray⟩, .int .i64 a.num, .int .i64 a.typ.kind, .int .i64 a.typ.num, .string ⟨a.typ.name.toArray⟩, .slice oa on oc, .slice ma mn mc] 28 (0, 0)))) (blk_new w3 (.cells #[.int .i64 c.kind, .string ⟨c.text.toArray⟩, .int .i64 c.num, .int .i64 c.typ.kind, .int .i64 c.typ.num, .string ⟨c.typ.name.toArray⟩, .slice sa sn sc, .slice ka kn kc, .int .i64 a.kind, .string ⟨a.text.toArray⟩, .int .i64 a.num, .int .i64 a.typ.kind, .int .i64 a.typ.num, .string ⟨a.typ.name.toArray⟩, .slice oa on oc, .slice ma mn mc] 28 (0, 0))) (by omega))
  refine (node_any 14 [c, a] _ _ _ HT.out).mono ?_
  rintro e w5 ⟨hg5, rfl, hr5⟩
  have G5 := Lib.hid (blk_call (blk_new w3 (.cells #[.int .i64 c.kind, .string ⟨c.text.toArray⟩, .int .i64 c.num, .int .i64 c.typ.kind, .int .i64 c.typ.num, .string ⟨c.typ.name.toArray⟩, .slice sa sn sc, .slice ka kn kc, .int .i64 a.kind, .string ⟨a.text.toArray⟩, .int .i64 a.num, .int .i64 a.typ.kind, .int .i64 a.typ.num, .string ⟨a.typ.name.toArray⟩, .slice oa on oc, .slice ma mn mc] 28 (0, 0))) hg5 (by simp))
  have HA5 := Lib.hid ((HA3.out.alloc (.cells #[.int .i64 c.kind, .string ⟨c.text.toArray⟩, .int .i64 c.num, .int .i64 c.typ.kind, .int .i64 c.typ.num, .string ⟨c.typ.name.toArray⟩, .slice sa sn sc, .slice ka kn kc, .int .i64 a.kind, .string ⟨a.text.toArray⟩, .int .i64 a.num, .int .i64 a.typ.kind, .int .i64 a.typ.num, .string ⟨a.typ.name.toArray⟩, .slice oa on oc, .slice ma mn mc] 28 (0, 0))).call hg5)
  have Z5 := Lib.hid (blk_call (blk_alloc Z3.out (.cells #[.int .i64 c.kind, .string ⟨c.text.toArray⟩, .int .i64 c.num, .int .i64 c.typ.kind, .int .i64 c.typ.num, .string ⟨c.typ.name.toArray⟩, .slice sa sn sc, .slice ka kn kc, .int .i64 a.kind, .string ⟨a.text.toArray⟩, .int .i64 a.num, .int .i64 a.typ.kind, .int .i64 a.typ.num, .string ⟨a.typ.name.toArray⟩, .slice oa on oc, .slice ma mn mc] 28 (0, 0))) hg5 (by simp))
  have K5 := Lib.hid (fun S => ((Kept.refl S w3).alloc (.cells #[.int .i64 c.kind, .string ⟨c.text.toArray⟩, .int .i64 c.num, .int .i64 c.typ.kind, .int .i64 c.typ.num, .string ⟨c.typ.name.toArray⟩, .slice sa sn sc, .slice ka kn kc, .int .i64 a.kind, .string ⟨a.text.toArray⟩, .int .i64 a.num, .int .i64 a.typ.kind, .int .i64 a.typ.num, .string ⟨a.typ.name.toArray⟩, .slice oa on oc, .slice ma mn mc] 28 (0, 0))).call0 hg5)
  have HR5 := Lib.hid hr5
  have hz5 := hg5.size
  simp at hz5
  clear hg5 hr5 HT
  unfold ndV
  go_wp2_with fail
  have HA6 := Lib.hid (HA5.out.alloc (.cells #[.int .i64 (Nd.of 14 [c, a]).kind, .string ⟨(Nd.of 14 [c, a]).text.toArray⟩, .int .i64 (Nd.of 14 [c, a]).num, .int .i64 (Nd.of 14 [c, a]).typ.kind, .int .i64 (Nd.of 14 [c, a]).typ.num, .string ⟨(Nd.of 14 [c, a]).typ.name.toArray⟩, .slice none 0 0, .slice (some ⟨w3.heap.size, 0, none⟩) 2 2] 28))
  have Z6 := Lib.hid (blk_alloc Z5.out (.cells #[.int .i64 (Nd.of 14 [c, a]).kind, .string ⟨(Nd.of 14 [c, a]).text.toArray⟩, .int .i64 (Nd.of 14 [c, a]).num, .int .i64 (Nd.of 14 [c, a]).typ.kind, .int .i64 (Nd.of 14 [c, a]).typ.num, .string ⟨(Nd.of 14 [c, a]).typ.name.toArray⟩, .slice none 0 0, .slice (some ⟨w3.heap.size, 0, none⟩) 2 2] 28))
  have N6 := Lib.hid (blk_new w5 (.cells #[.int .i64 (Nd.of 14 [c, a]).kind, .string ⟨(Nd.of 14 [c, a]).text.toArray⟩, .int .i64 (Nd.of 14 [c, a]).num, .int .i64 (Nd.of 14 [c, a]).typ.kind, .int .i64 (Nd.of 14 [c, a]).typ.num, .string ⟨(Nd.of 14 [c, a]).typ.name.toArray⟩, .slice none 0 0, .slice (some ⟨w3.heap.size, 0, none⟩) 2 2] 28))
  have G6 := Lib.hid (blk_alloc G5.out (.cells #[.int .i64 (Nd.of 14 [c, a]).kind, .string ⟨(Nd.of 14 [c, a]).text.toArray⟩, .int .i64 (Nd.of 14 [c, a]).num, .int .i64 (Nd.of 14 [c, a]).typ.kind, .int .i64 (Nd.of 14 [c, a]).typ.num, .string ⟨(Nd.of 14 [c, a]).typ.name.toArray⟩, .slice none 0 0, .slice (some ⟨w3.heap.size, 0, none⟩) 2 2] 28))
  have K6 := Lib.hid (fun S => (K5.out S).alloc (.cells #[.int .i64 (Nd.of 14 [c, a]).kind, .string ⟨(Nd.of 14 [c, a]).text.toArray⟩, .int .i64 (Nd.of 14 [c, a]).num, .int .i64 (Nd.of 14 [c, a]).typ.kind, .int .i64 (Nd.of 14 [c, a]).typ.num, .string ⟨(Nd.of 14 [c, a]).typ.name.toArray⟩, .slice none 0 0, .slice (some ⟨w3.heap.size, 0, none⟩) 2 2] 28))
  have HR6 := Lib.hid (HR5.out.kept ((Kept.refl _ _).alloc (.cells #[.int .i64 (Nd.of 14 [c, a]).kind, .string ⟨(Nd.of 14 [c, a]).text.toArray⟩, .int .i64 (Nd.of 14 [c, a]).num, .int .i64 (Nd.of 14 [c, a]).typ.kind, .int .i64 (Nd.of 14 [c, a]).typ.num, .string ⟨(Nd.of 14 [c, a]).typ.name.toArray⟩, .slice none 0 0, .slice (some ⟨w3.heap.size, 0, none⟩) 2 2] 28)))
  have hz6 : w5.heap.size < (w5.alloc (.cells #[.int .i64 (Nd.of 14 [c, a]).kind, .string ⟨(Nd.of 14 [c, a]).text.toArray⟩, .int .i64 (Nd.of 14 [c, a]).num, .int .i64 (Nd.of 14 [c, a]).typ.kind, .int .i64 (Nd.of 14 [c, a]).typ.num, .string ⟨(Nd.of 14 [c, a]).typ.name.toArray⟩, .slice none 0 0, .slice (some ⟨w3.heap.size, 0, none⟩) 2 2] 28)).heap.size := by simp
  generalize w5.alloc (.cells #[.int .i64 (Nd.of 14 [c, a]).kind, .string ⟨(Nd.of 14 [c, a]).text.toArray⟩, .int .i64 (Nd.of 14 [c, a]).num, .int .i64 (Nd.of 14 [c, a]).typ.kind, .int .i64 (Nd.of 14 [c, a]).typ.num, .string ⟨(Nd.of 14 [c, a]).typ.name.toArray⟩, .slice none 0 0, .slice (some ⟨w3.heap.size, 0, none⟩) 2 2] 28) = W6 at *
  have hgL : w3.heap.size < w5.heap.size := by omega
  generalize w5.heap.size = L1 at *
  have hwg : w.heap.size < w3.heap.size := by omega
  have hmono := Lib.hid (fun (g : Nat) (hs : w.heap.size + 1 ≤ g) (hl : g < w3.heap.size) => show Sx w.heap.size [w.heap.size, L1, w3.heap.size] g from ⟨by omega, by simp; omega⟩)
  have HO3' := Lib.hid ((HO3.out.mono hmono.out (fun _ _ _ => rfl)).kept (K6.out _))
  have HK3' := Lib.hid ((HK3.out.mono hmono.out (fun _ _ _ => rfl)).kept (K6.out _))
  have HO4' := Lib.hid ((HO4.out.mono hmono.out (fun _ _ _ => rfl)).kept (K6.out _))
  have HK4' := Lib.hid ((HK4.out.mono hmono.out (fun _ _ _ => rfl)).kept (K6.out _))
  generalize w3.heap.size = g0 at *
  have hwL : ¬ w.heap.size = L1 := by omega
  have hwL1 : w.heap.size < L1 := by omega
  clear HA3 HA5 Z3 Z5 G5 K5 K6 HR5 HO3 HK3 HO4 HK4 hmono hz1 hz2 hz3 hz5
  cases hs : isP [101, 108, 115, 101] (C.toks.drop i3) with
  | false =>
    refine (skip_no C _ i3 d HA6.out.pr [101, 108, 115, 101] hs).mono ?_
    rintro e w7 ⟨rfl, hg⟩
    have HA7 := Lib.hid (HA6.out.call hg)
    obtain ⟨⟨r0, r1, r2, r3, r4, r5, r6, r7⟩, e0, e1, e2, e3, e4, e5, e6, e7⟩ := cells8_of w7 w.heap.size _ _ _ _ _ _ _ _ _ (blk_call Z6.out hg (by simp))
    obtain ⟨⟨q0, q1, q2, q3, q4, q5, q6, q7⟩, _⟩ := cells8_of w7 L1 _ _ _ _ _ _ _ _ _ (blk_call N6.out hg (by simp))
    have HR7 := Lib.hid ((HR6.out.mono (S' := Sx w.heap.size [w.heap.size]) (fun g hs _ => ⟨by omega, by simp; omega⟩) (fun _ _ _ => rfl)).kept ((Kept.refl _ _).call0 hg))
    have hz7 := hg.size
    have z7 : w.heap.size < w7.heap.size := by omega
    have z8 : L1 < w7.heap.size := by omega
    have HS := Lib.hid hs
    clear hg hs
    go_wp2_with fail
    refine bodyPost_ret (v := ndV (Nd.of 14 [c, a]) (.slice none 0 0) (.slice (some ⟨g0, 0, none⟩) 2 2)) (by simp [results, Tryz.results94, go_sem, r0, r1, r2, r3, r4, r5, r6, r7]; rfl) rfl ?_
    exact (HA7.out.set8 (Nat.le_refl _) _ _ _ _ _ _ _ _).okOut (by rw [PR.bind_ok, HRc.out, PR.bind_ok, HRs.out, PR.bind_ok, if_neg (by rw [HS.out]; simp)]) ⟨_, _, rfl, RepOf.nil _ _, (HR7.out.kept ((Kept.refl _ _).set8 (b := w.heap.size) (by simp) _ _ _ _ _ _ _ _)).out (Nat.le_refl _)⟩ rfl
  | true =>
    refine (skip_yes C _ i3 d HA6.out.pr [101, 108, 115, 101] (by simp) hs).mono ?_
    rintro e w7 ⟨rfl, hg, hp7⟩
    have HA7 := Lib.hid (HA6.out.turn hg hp7)
    have Z7 := Lib.hid (blk_call Z6.out hg (by simp; omega))
    have N7 := Lib.hid (blk_call N6.out hg (by simp; omega))
    have G7 := Lib.hid (blk_call G6.out hg (by simp; omega))
    have KK := (Kept.refl (Sx w.heap.size [w.heap.size, L1, g0]) W6).call hg hbp
    have HO7 := Lib.hid (HO3'.out.kept KK)
    have HK7 := Lib.hid (HK3'.out.kept KK)
    have HO8 := Lib.hid (HO4'.out.kept KK)
    have HK8 := Lib.hid (HK4'.out.kept KK)
    have HS := Lib.hid hs
    have HX := Lib.hid (fun w h => HL.out.st w (i3 + 1) h)
    have hz7 := hg.size
    have z8 : L1 < w7.heap.size := by omega
    obtain ⟨⟨q0, q1, q2, q3, q4, q5, q6, q7⟩, _⟩ := cells8_of w7 L1 _ _ _ _ _ _ _ _ _ N7.out
    have HE := Lib.hid (show (PR.ok u (C.toks.drop i1)).bind (fun _ r0 => (conditionP R r0).bind fun c r1 => (R.stmt r1).bind fun a r2 => if isP [101, 108, 115, 101] r2 = true then (R.stmt r2.tail).bind fun b r3 => .ok (Nd.of 14 [c, a, b]) r3 else .ok (Nd.of 14 [c, a]) r2) = (R.stmt (C.toks.drop (i3 + 1))).bind fun b r3 => .ok (Nd.of 14 [c, a, b]) r3 by rw [PR.bind_ok, HRc.out, PR.bind_ok, HRs.out, PR.bind_ok, if_pos HS.out, tl_at])
    clear hg hp7 hs KK HA6 Z6 N6 G6 HO3' HK3' HO4' HK4' HL HR6 HRc HRs HS
    have hOk := Lib.hid (fun k (hk : (Value.slice (some ⟨g0, 0, none⟩) 2 2).ownBlock = some k) => show w.heap.size ≤ k by have := own_is hk; omega)
    have hO1 := Lib.hid (show (Value.slice (some ⟨g0, 0, none⟩) 2 2).ownBlock ≠ some L1 from fun e => by have := own_is e; omega)
    have hO2 := Lib.hid (show (Value.slice (some ⟨g0, 0, none⟩) 2 2).ownBlock ≠ some w.heap.size from fun e => by have := own_is e; omega)
    generalize R.stmt (C.toks.drop (i3 + 1)) = R0 at HE HX
    go_wp2_with fail
    go_region_law (first
      | (refine step_append_nodes (S := Sx w.heap.size [w.heap.size, L1, g0]) (S' := Sx w.heap.size [w.heap.size, L1]) (l1 := [c, a]) (l2 := [b]) rfl (.tmp 15) (.tmp 18) rfl rfl rfl (row_two HF.out.2.2.2.2.1) HF.out.2.2.2.2.2.1 HF.out.2.2.2.2.2.2 (fun g hg => by obtain rfl := (Option.some.inj hg.symm); exact ⟨fun h => h.2 (by simp), ⟨by omega, by simp; omega⟩⟩) (fun g hg => ⟨hg.1, fun hm => hg.2 (by simp at hm ⊢; omega)⟩) ⟨by simp; omega, by simp; omega⟩ (by simp) ?_; intro a4 n4 c4 w8 hk8 hg8; have HG8 := Lib.hid (And.intro (HF.out.1.app hg8 hOk.out) (And.intro (blk_call HF.out.2.2.1 hg8 hO1.out) (And.intro (blk_call HF.out.2.2.2.1 hg8 hO2.out) hk8))); obtain ⟨_, e0, e1, e2, e3, e4, e5, e6, e7⟩ := cells8_of w8 L1 _ _ _ _ _ _ _ _ _ HG8.out.2.1; have hz10 := hg8.size; simp at hz10; have z10 : L1 < w8.heap.size := (by omega); clear hk8 hg8)
      | (go_simp; go_at_call 89; refine (HX.out _ HA7.out.drew.pr).mono ?_; rcases R0 with ⟨b, r⟩ | ⟨p, er⟩; rotate_left; (rintro e wc ⟨hg, i4, d4, rfl, hdd, hp1⟩; exact ⟨rfl, (HA7.out.drew.turn hg hp1).errOut (by rw [HE.out]; rfl)⟩); rintro e wc ⟨hg, v4, i4, rfl, ⟨ofb, kb, rfl, hof, hkv⟩, hp1, hd4⟩; obtain ⟨xa, xn, xc, rfl⟩ := hof.isSlice; obtain ⟨ya, yn, yc, rfl⟩ := hkv.isSlice; have hz8 := hg.size; simp at hz8; have z9 : L1 < wc.heap.size := (by omega); have HF := Lib.hid (tail_choice b (xa := xa) (xn := xn) (xc := xc) (ya := ya) (yn := yn) (yc := yc) (HA7.out.drew.turn hg hp1) hd4 (blk_call N7.out (undrew hg) (by simp; omega)) (blk_call Z7.out (undrew hg) (by simp; omega)) (blk_call G7.out (undrew hg) (by simp; omega)) (HO7.out.kept ((Kept.refl _ w7).drew.call hg hbp)) (HK7.out.kept ((Kept.refl _ w7).drew.call hg hbp)) (HO8.out.kept ((Kept.refl _ w7).drew.call hg hbp)) (HK8.out.kept ((Kept.refl _ w7).drew.call hg hbp)) (hof.mono (S' := fun g => L1 + 1 ≤ g) (fun g hs _ => by simp at hs; omega) (fun _ _ _ => rfl)) (hkv.mono (S' := fun g => L1 + 1 ≤ g) (fun g hs _ => by simp at hs; omega) (fun _ _ _ => rfl)) hwg hgL z9); obtain ⟨⟨p0, p1, p2, p3, p4, p5, p6, p7⟩, _⟩ := cells8_of wc L1 _ _ _ _ _ _ _ _ _ (blk_call N7.out (undrew hg) (by simp; omega)); clear hg hp1 hof hkv; unfold ndV))
    all_goals
      have A9 := Lib.hid (HG8.out.1.set (p := ⟨L1, 7, none⟩) (by simp; omega) (.slice a4 n4 c4))
      have N9 := Lib.hid (blk_put7 HG8.out.2.1 (.slice a4 n4 c4))
      have Z9 := Lib.hid (blk_set HG8.out.2.2.1 (p := ⟨L1, 7, none⟩) hwL (.slice a4 n4 c4))
      have K9 := Lib.hid (HG8.out.2.2.2.kept ((Kept.refl (Sx w.heap.size [w.heap.size, L1]) w8).set (p := ⟨L1, 7, none⟩) (by simp) (.slice a4 n4 c4)))
      have z11 : L1 < (w8.setCell ⟨L1, 7, none⟩ (.slice a4 n4 c4)).heap.size := by simp [World.setCell]; omega
      have hd9 := HF.out.2.1
      generalize w8.setCell ⟨L1, 7, none⟩ (.slice a4 n4 c4) = W9 at *
      clear e0 e1 e2 e3 e4 e5 e6 e7 q0 q1 q2 q3 q4 q5 q6 q7
      obtain ⟨⟨r0, r1, r2, r3, r4, r5, r6, r7⟩, e0, e1, e2, e3, e4, e5, e6, e7⟩ := cells8_of W9 w.heap.size _ _ _ _ _ _ _ _ _ Z9.out
      obtain ⟨⟨q0, q1, q2, q3, q4, q5, q6, q7⟩, _⟩ := cells8_of W9 L1 _ _ _ _ _ _ _ _ _ N9.out
      have z12 : w.heap.size < W9.heap.size := by omega
      clear HG8 HF
      go_wp2_with fail
      refine bodyPost_ret (v := ndV (Nd.of 14 [c, a, b]) (.slice none 0 0) (.slice a4 n4 c4)) (by simp [results, Tryz.results94, go_sem, r0, r1, r2, r3, r4, r5, r6, r7]; rfl) rfl ?_
      exact (A9.out.set8 (Nat.le_refl _) _ _ _ _ _ _ _ _).okOut (by rw [HE.out]; rfl) ⟨_, _, rfl, RepOf.nil _ _, (K9.out.kept ((Kept.refl _ _).set8 (b := w.heap.size) (by simp) _ _ _ _ _ _ _ _)).out (Nat.le_refl _)⟩ hd9
end Go.Proofs.YtkbplcfehllbjaaGreatDoor
/- append of two slices of types; pointerTo. -/
namespace Go.Proofs.YtkbplcfehllbjaaGreatDoor
open Go.RowKit
theorem RepTl.ones {w : World} {S : Nat → Prop} : ∀ (l : List Ty) (cs : List Value), RepTl w S l cs → ∀ u ∈ cs, u.oneCell' = true
  | [], cs, h => by
    have : cs = [] := h
    subst this
    intro u hu; cases hu
  | .mk k n nm of :: l, cs, ⟨c1, c2, hc, h1, h2⟩ => by
    obtain ⟨ofv, rfl, hof⟩ := h1
    obtain ⟨sa, sn, sc, rfl⟩ := RepOf.isSlice hof
    intro u hu
    rw [hc, List.mem_append] at hu
    rcases hu with hu | hu
    · simp at hu
      rcases hu with rfl | rfl | rfl | rfl <;> rfl
    · exact RepTl.ones l c2 h2 u hu
theorem RepTl.app {w : World} {S : Nat → Prop} : ∀ (l m : List Ty) (c1 c2 : List Value), RepTl w S l c1 → RepTl w S m c2 → RepTl w S (l ++ m) (c1 ++ c2)
  | [], m, c1, c2, h1, h2 => by
    have : c1 = [] := h1
    subst this; exact h2
  | a :: l, m, c1, c2, ⟨d1, d2, hd, g1, g2⟩, h2 => ⟨d1, d2 ++ c2, by rw [hd, List.append_assoc], g1, RepTl.app l m d2 c2 g2 h2⟩
set_option maxRecDepth 100000 in
theorem run_append_types (ty : TypeId) {w : World} {S S' : Nat → Prop} {v x : Value} {l1 l2 : List Ty} {c1 : List Value} (hrow : w.ownsRow 0 25 4 v l1.length c1) (he : RepTl w S l1 c1) (hx : RepOf w S x l2)
    (hn : ∀ g, v.ownBlock = some g → ¬ S g ∧ S' g) (hS : ∀ g, S g → S' g) (hnew : S' w.heap.size) (hlen : l1.length + l2.length ≤ 40004) :
    ∃ a n c w', (Builtin.append_ #[23, 23] ty #[v, x]).run Tryz.prog w = .ok (.slice a n c) w' ∧ RepOf w' S' (.slice a n c) (l1 ++ l2) ∧ w.grownBy w' v.ownBlock := by
  obtain ⟨i0, hi, hz0, hz1, hz2⟩ := info_parts infoTy
  obtain ⟨c2, hr2, hb2, he2⟩ := hx
  have hsame : ∀ w', w.grownBy w' v.ownBlock → SameOn S w w' := fun w' g k hk hl => g.block k hl (fun e => (hn k e.symm).1 hk)
  rcases row_cells hr2 with ⟨rfl, h0⟩ | ⟨g, cap, rfl, hc⟩
  · have : l2 = [] := List.eq_nil_of_length_eq_zero h0
    subst this
    have hc2 : c2 = [] := he2
    have hf : ∃ a n c, v = .slice a n c := by
      rcases row_cells hrow with ⟨rfl, _⟩ | ⟨g, cap, rfl, _⟩
      · exact ⟨_, _, _, rfl⟩
      · exact ⟨_, _, _, rfl⟩
    obtain ⟨a, n, c, rfl⟩ := hf
    refine ⟨a, n, c, w, run_append_owned_none (P := Tryz.prog) w 0 23 ty 25 i0 4 Tryz.underlying23 hi _ l1.length c1 hrow, ?_, grownBy_refl _ _⟩
    rw [List.append_nil]
    exact ⟨c1, hrow, fun g hg => (hn g hg).2, RepTl.mono (fun g hs _ => hS g hs) (fun _ _ _ => rfl) l1 c1 he⟩
  · obtain ⟨v', w', hr, h2, h3, _, h5⟩ := run_append_own_at (P := Tryz.prog) w 0 23 ty 25 i0 _ 4 56 Tryz.underlying23 hi hz0 hz1 hz2 rfl (by decide) v l1.length c1 hrow ⟨g, 0, none⟩ l2.length cap c2 hr2.1 hc (RepTl.ones l2 c2 he2) (by unfold maxLen; omega) (by omega) (Nat.zero_le _)
    have hf : ∃ a n c, v' = .slice a n c := by
      rcases row_cells h2 with ⟨rfl, _⟩ | ⟨g, cap, rfl, _⟩
      · exact ⟨_, _, _, rfl⟩
      · exact ⟨_, _, _, rfl⟩
    obtain ⟨a, n, c, rfl⟩ := hf
    refine ⟨a, n, c, w', hr, ⟨c1 ++ c2, by rw [List.length_append]; exact h2, fun k hk => ?_, ?_⟩, h3⟩
    · rcases h5 with h5 | h5
      · exact (hn k (by rw [← h5]; exact hk)).2
      · rw [h5] at hk
        cases hk
        exact hnew
    · exact RepTl.app l1 l2 c1 c2 (RepTl.mono (fun g hs _ => hS g hs) (hsame w' h3) l1 c1 he) (RepTl.mono (fun g hs _ => hS g hs) (hsame w' h3) l2 c2 he2)
theorem step_append_types {ops : Array Oper} {o : Oper} {a : Act} {w : World} {K : Act → World → Prop} {Q : Exit → Act → World → Prop} {E : Prop} (hgd : o.guard = none) (s x : Operand)
    (ho : o.op = .call { callee := .builtin .append, args := #[s, x], argTypes := #[23, 23] }) {S S' : Nat → Prop} {v xv : Value} {l1 l2 : List Ty} {c1 : List Value} (hs : a.eval s = v) (hxv : a.eval x = xv)
    (hrow : w.ownsRow 0 25 4 v l1.length c1) (he : RepTl w S l1 c1) (hx : RepOf w S xv l2)
    (hn : ∀ g, v.ownBlock = some g → ¬ S g ∧ S' g) (hS : ∀ g, S g → S' g) (hnew : S' w.heap.size) (hlen : l1.length + l2.length ≤ 40004)
    (h : ∀ a' n c w', RepOf w' S' (.slice a' n c) (l1 ++ l2) → w.grownBy w' v.ownBlock → K (a.put o.dst (.slice a' n c)) w') :
    if Region.wanted o (yielded ops a.tmps) = true then Oper.wp Tryz.prog o a w K Q else E := by
  have hw : Region.wanted o (yielded ops a.tmps) = true := by simp [Region.wanted, hgd]
  rw [if_pos hw]
  obtain ⟨a', n, c, w', hr, h2, h3⟩ := run_append_types o.type hrow he hx hn hS hnew hlen
  unfold Oper.wp execOp
  simp only [ho, resolve, invoke, builtin, Sem.run_bind, Sem.run_pure, Result.andThen_ok, List.map_toArray, List.map_cons, List.map_nil, hs, hxv, hr]
  exact h a' n c w' h2 h3
theorem wpList_append_types {ops : Array Oper} {rest : List Oper} {o : Oper} {a : Act} {w : World} {Q : Exit → Act → World → Prop} (hgd : o.guard = none) (s x : Operand)
    (ho : o.op = .call { callee := .builtin .append, args := #[s, x], argTypes := #[23, 23] }) {S S' : Nat → Prop} {v xv : Value} {l1 l2 : List Ty} {c1 : List Value} (hs : a.eval s = v) (hxv : a.eval x = xv)
    (hrow : w.ownsRow 0 25 4 v l1.length c1) (he : RepTl w S l1 c1) (hx : RepOf w S xv l2)
    (hn : ∀ g, v.ownBlock = some g → ¬ S g ∧ S' g) (hS : ∀ g, S g → S' g) (hnew : S' w.heap.size) (hlen : l1.length + l2.length ≤ 40004)
    (h : ∀ a' n c w', RepOf w' S' (.slice a' n c) (l1 ++ l2) → w.grownBy w' v.ownBlock → wpList Tryz.prog ops Q rest (a.put o.dst (.slice a' n c)) w') : wpList Tryz.prog ops Q (o :: rest) a w := by
  refine wpList_plain hgd fun K hK => ?_
  obtain ⟨a', n, c, w', hr, h2, h3⟩ := run_append_types o.type hrow he hx hn hS hnew hlen
  unfold Oper.wp execOp
  simp only [ho, resolve, invoke, builtin, Sem.run_bind, Sem.run_pure, Result.andThen_ok, List.map_toArray, List.map_cons, List.map_nil, hs, hxv, hr]
  exact hK _ _ (h a' n c w' h2 h3)
theorem row_oneT {w : World} {n : Ty} {ofv : Value} {L : Nat} (hb : w.heap[L]? = some (.cells #[.int .i64 n.kind, .int .i64 n.num, .string ⟨n.name.toArray⟩, ofv] 25 (0, 0))) :
    w.ownsRow 0 25 4 (.slice (some ⟨L, 0, none⟩) 1 1) [n].length (tyC n ofv) :=
  ⟨rfl, .inr ⟨L, 1, _, rfl, Nat.zero_le _, hb, Nat.le_refl _, by unfold maxLen; omega, rfl, rfl⟩⟩
/-- One type in a block of its own, and a slice of types: ready for append. -/
def AppT (B : Nat) (X : List Nat) (wA : World) (g0 : Nat) (n : Ty) (ofv v1 : Value) (l : List Ty) : Prop :=
  wA.ownsRow 0 25 4 (.slice (some ⟨g0, 0, none⟩) 1 1) [n].length (tyC n ofv) ∧ RepTl wA (Sx B (g0 :: X)) [n] (tyC n ofv) ∧ RepOf wA (Sx B (g0 :: X)) v1 l ∧
  (∀ g, (Value.slice (some ⟨g0, 0, none⟩) 1 1).ownBlock = some g → ¬ Sx B (g0 :: X) g ∧ Sx B X g) ∧ (∀ g, Sx B (g0 :: X) g → Sx B X g) ∧ Sx B X wA.heap.size ∧ (∀ k, (Value.slice (some ⟨g0, 0, none⟩) 1 1).ownBlock = some k → g0 ≤ k) ∧ (∀ x ∈ X, (Value.slice (some ⟨g0, 0, none⟩) 1 1).ownBlock ≠ some x)
theorem appT_late {B : Nat} {X : List Nat} {wc : World} {n : Ty} {ofv v1 : Value} {l : List Ty} (ho : RepOf wc (Sx B X) ofv n.of) (hl : RepOf wc (Sx B X) v1 l) (hB : B ≤ wc.heap.size) (hX : ∀ x ∈ X, x < wc.heap.size) :
    AppT B X (wc.alloc (.cells #[.int .i64 n.kind, .int .i64 n.num, .string ⟨n.name.toArray⟩, ofv] 25 (0, 0))) wc.heap.size n ofv v1 l := by
  refine ⟨row_oneT (blk_new wc _), ⟨tyC n ofv, [], by simp, RepT.of ?_, rfl⟩, ?_, fun g hg => ?_, fun g hg => sx_cons hg, sx_new (by simp; omega) (fun x hx => by have := hX x hx; simp; omega), fun k hk => ?_, fun x hx e => by have := own_is e; have := hX x hx; omega⟩
  · exact (ho.mono (fun g hs hlt => sx_add hs (by omega)) (fun _ _ _ => rfl)).kept ((Kept.refl _ _).alloc _)
  · exact (hl.mono (fun g hs hlt => sx_add hs (by omega)) (fun _ _ _ => rfl)).kept ((Kept.refl _ _).alloc _)
  · obtain rfl := own_is hg
    exact ⟨fun h => h.2 (by simp), sx_new hB hX⟩
  · obtain rfl := own_is hk
    exact Nat.le_refl _
theorem appT_early {B r : Nat} {X : List Nat} {W wc : World} {n : Ty} {ofv v1 : Value} {l : List Ty} (ho : RepOf W (Sx B X) ofv n.of) (hB : B ≤ W.heap.size) (hX : ∀ x ∈ X, x < W.heap.size)
    (hg : (W.alloc (.cells #[.int .i64 n.kind, .int .i64 n.num, .string ⟨n.name.toArray⟩, ofv] 25 (0, 0))).drew.grownBy wc (some r)) (hr : r < B)
    (hl : RepOf wc (fun g => W.heap.size + 1 ≤ g) v1 l) : AppT B X wc W.heap.size n ofv v1 l := by
  have hz := hg.size
  simp at hz
  have K := ((Kept.refl (Sx B (W.heap.size :: X)) W).alloc (.cells #[.int .i64 n.kind, .int .i64 n.num, .string ⟨n.name.toArray⟩, ofv] 25 (0, 0))).drew.call hg hr
  refine ⟨row_oneT (blk_call (blk_new W _) (undrew hg) (by simp; omega)), ⟨tyC n ofv, [], by simp, RepT.of ?_, rfl⟩, ?_, fun g hg => ?_, fun g hg => sx_cons hg, sx_new (by omega) (fun x hx => by have := hX x hx; omega), fun k hk => ?_, fun x hx e => by have := own_is e; have := hX x hx; omega⟩
  · exact (ho.mono (fun g hs hlt => sx_add hs (by omega)) (fun _ _ _ => rfl)).kept K
  · exact hl.mono (fun g hs hlt => sx_add (sx_new (by omega) (fun x hx => by have := hX x hx; omega)) (by omega)) (fun _ _ _ => rfl)
  · obtain rfl := own_is hg
    exact ⟨fun h => h.2 (by simp), sx_new hB hX⟩
  · obtain rfl := own_is hk
    exact Nat.le_refl _
end Go.Proofs.YtkbplcfehllbjaaGreatDoor
