/- Merged: Q36, Q37, Q38, Q34. -/
import Derived.Test.YtkbplcfehllbjaaGreatDoorMk11
/- clone. -/
namespace Go.Proofs.YtkbplcfehllbjaaGreatDoor
open Go.RowKit
attribute [local go_sem ↓] Go.wp_at_zero Go.wp_at_succ
mutual
/-- No list of parts is longer than a source may have. -/
def SlimT : Ty → Prop
  | .mk _ _ _ of => of.length ≤ 100000 ∧ SlimL of
def SlimL : List Ty → Prop
  | [] => True
  | t :: l => SlimT t ∧ SlimL l
end
theorem SlimL.mem : ∀ {l : List Ty}, SlimL l → ∀ t ∈ l, SlimT t
  | [], _, t, h => by cases h
  | a :: l, hl, t, h => by
    rcases List.mem_cons.1 h with e | e
    · rw [e]; exact hl.1
    · exact SlimL.mem hl.2 t e
theorem SlimT.len {t : Ty} (h : SlimT t) : t.of.length ≤ 100000 := by cases t; exact h.1
theorem SlimT.parts {t : Ty} (h : SlimT t) : SlimL t.of := by cases t; exact h.2
theorem row_put4 {w : World} {B e g n cap k : Nat} {c1 c2 : List Value} {x0 x1 x2 x3 : Value} (h : w.ownsRow B e 4 (.slice (some ⟨g, 0, none⟩) n cap) n (c1 ++ ([x0, x1, x2, x3] ++ c2))) (hk : c1.length = k * 4) (y0 y1 y2 y3 : Value) :
    ((((w.setCell ⟨g, k * 4, none⟩ y0).setCell ⟨g, k * 4 + 1, none⟩ y1).setCell ⟨g, k * 4 + 2, none⟩ y2).setCell ⟨g, k * 4 + 3, none⟩ y3).ownsRow B e 4 (.slice (some ⟨g, 0, none⟩) n cap) n (c1 ++ ([y0, y1, y2, y3] ++ c2)) := by
  refine ⟨by have := h.1; simp at this ⊢; omega, ?_⟩
  rcases h.2 with ⟨h0, _⟩ | ⟨g', cap', cur, hv, hg, hh, hn, hc, hs, ht⟩
  · cases h0
  · simp only [Value.slice.injEq, Option.some.injEq, Addr.mk.injEq] at hv
    obtain ⟨⟨rfl, _, _⟩, _, rfl⟩ := hv
    refine .inr ⟨g, cap, (((cur.setIfInBounds (k * 4) y0).setIfInBounds (k * 4 + 1) y1).setIfInBounds (k * 4 + 2) y2).setIfInBounds (k * 4 + 3) y3, rfl, hg, ?_, hn, hc, by simpa using hs, ?_⟩
    · simp [World.setCell, Array.getElem?_modify, hh]
    · simp only [Array.toList_setIfInBounds, List.take_set, ht]
      rw [List.set_append_right _ _ (by omega), hk, Nat.sub_self]
      rw [List.set_append_right _ _ (by omega), hk, show k * 4 + 1 - k * 4 = 1 by omega]
      rw [List.set_append_right _ _ (by omega), hk, show k * 4 + 2 - k * 4 = 2 by omega]
      rw [List.set_append_right _ _ (by omega), hk, show k * 4 + 3 - k * 4 = 3 by omega]
      rfl
theorem row_cells4 {w : World} {B e g n cap k : Nat} {c1 c2 : List Value} {x0 x1 x2 x3 : Value} (h : w.ownsRow B e 4 (.slice (some ⟨g, 0, none⟩) n cap) n (c1 ++ ([x0, x1, x2, x3] ++ c2))) (hk : c1.length = k * 4) :
    (w.cell? ⟨g, k * 4, none⟩ = some x0 ∧ w.cell? ⟨g, k * 4 + 1, none⟩ = some x1 ∧ w.cell? ⟨g, k * 4 + 2, none⟩ = some x2 ∧ w.cell? ⟨g, k * 4 + 3, none⟩ = some x3) ∧
    w.frozen? ⟨g, k * 4, none⟩ = false ∧ w.frozen? ⟨g, k * 4 + 1, none⟩ = false ∧ w.frozen? ⟨g, k * 4 + 2, none⟩ = false ∧ w.frozen? ⟨g, k * 4 + 3, none⟩ = false := by
  rcases h.2 with ⟨h0, _⟩ | ⟨g', cap', cur, hv, hg, hh, hn, hc, hs, ht⟩
  · cases h0
  · simp only [Value.slice.injEq, Option.some.injEq, Addr.mk.injEq] at hv
    obtain ⟨⟨rfl, _, _⟩, _, rfl⟩ := hv
    have hat : ∀ j u, (c1 ++ ([x0, x1, x2, x3] ++ c2))[j]? = some u → w.cell? ⟨g, j, none⟩ = some u := fun j u hu => by
      have h1 := World.news_of_block hh j u (by
        rw [← ht, List.getElem?_take] at hu
        split at hu
        · exact hu
        · cases hu)
      have hadd : (⟨g, 0, none⟩ : Addr).add j = ⟨g, j, none⟩ := by unfold Addr.add; split <;> simp_all
      rwa [hadd] at h1
    refine ⟨⟨hat _ _ ?_, hat _ _ ?_, hat _ _ ?_, hat _ _ ?_⟩, ?_, ?_, ?_, ?_⟩
    · rw [List.getElem?_append_right (by omega), hk, Nat.sub_self]; rfl
    · rw [List.getElem?_append_right (by omega), hk, show k * 4 + 1 - k * 4 = 1 by omega]; rfl
    · rw [List.getElem?_append_right (by omega), hk, show k * 4 + 2 - k * 4 = 2 by omega]; rfl
    · rw [List.getElem?_append_right (by omega), hk, show k * 4 + 3 - k * 4 = 3 by omega]; rfl
    all_goals simp [World.frozen?, hh]
theorem RepTl.len {w : World} {S : Nat → Prop} : ∀ (l : List Ty) (cs : List Value), RepTl w S l cs → cs.length = l.length * 4
  | [], cs, h => by
    have : cs = [] := h
    subst this; rfl
  | .mk k n nm of :: l, cs, ⟨c1, c2, hc, h1, h2⟩ => by
    obtain ⟨v, rfl, _⟩ := h1
    have := RepTl.len l c2 h2
    rw [hc]; simp [this]; omega
theorem keepsOnK {S : Nat → Prop} (w : World) {b : Nat} (h : ¬ S b) (o0 o1 o2 o3 : Nat) (v0 v1 v2 v3 : Value) : KeepsOn S w ((((w.setCell ⟨b, o0, none⟩ v0).setCell ⟨b, o1, none⟩ v1).setCell ⟨b, o2, none⟩ v2).setCell ⟨b, o3, none⟩ v3) :=
  (((KeepsOn.setCell (p := ⟨b, o0, none⟩) h _).trans (KeepsOn.setCell (p := ⟨b, o1, none⟩) h _)).trans (KeepsOn.setCell (p := ⟨b, o2, none⟩) h _)).trans (KeepsOn.setCell (p := ⟨b, o3, none⟩) h _)
/-- What a call of clone gives. -/
def Clones (t : Ty) : Prop := ∀ (ofv : Value) (S : Nat → Prop) (w : World), RepOf w S ofv t.of → Calls Tryz.prog 74 #[tyV t ofv] w fun e w' => w.grownBy w' none ∧ ∃ v, e = .returned (tyV t v) ∧ RepOf w' (fun g => w.heap.size ≤ g) v t.of
set_option maxRecDepth 100000 in
set_option maxHeartbeats 4000000 in
theorem clone_step (t : Ty) (hs : t.of.length ≤ 100000) (ih : ∀ u ∈ t.of, Clones u) : Clones t := by
  intro ofv S w h
  obtain ⟨sa, sn, sc, rfl⟩ := h.isSlice
  obtain ⟨cells, ho, hb, hl⟩ := h.sw
  have HC := Lib.hid (fun w' ho' => sclone_any (.slice sa sn sc) t.of.length cells w' ho' (RepTl.ones _ _ hl) hs)
  have HO := Lib.hid ho
  have HLl := Lib.hid hl
  have HI := Lib.hid ih
  clear h ho hb hl ih
  unfold tyV
  go_enter Tryz.func74, Tryz.ntmps74
  go_wp2_with fail
  have B0 := Lib.hid (blk_alloc (blk_new w (.cells #[.int .i64 t.kind, .int .i64 t.num, .string ⟨t.name.toArray⟩, .slice sa sn sc] 25 (0, 0))) (.cells #[.int .i64 0, .int .i64 0, .string ⟨#[]⟩, .slice none 0 0] 25))
  have N0 := Lib.hid (blk_new2 w (.cells #[.int .i64 t.kind, .int .i64 t.num, .string ⟨t.name.toArray⟩, .slice sa sn sc] 25 (0, 0)) (.cells #[.int .i64 0, .int .i64 0, .string ⟨#[]⟩, .slice none 0 0] 25))
  have HG0 := Lib.hid (gr_alloc (gr_alloc (grownBy_refl w none) (.cells #[.int .i64 t.kind, .int .i64 t.num, .string ⟨t.name.toArray⟩, .slice sa sn sc] 25 (0, 0))) (.cells #[.int .i64 0, .int .i64 0, .string ⟨#[]⟩, .slice none 0 0] 25))
  refine (HC.out _ (ownsRow_call0 HO.out HG0.out)).mono ?_
  rintro e w1 ⟨v1, rfl, hrow, hg⟩
  have hf : ∃ a c, v1 = .slice a t.of.length c ∧ (t.of.length = 0 ∨ ∃ g, a = some ⟨g, 0, none⟩) := by
    rcases hrow.2 with ⟨rfl, h0⟩ | ⟨g, cap, cur, rfl, _⟩
    · exact ⟨_, 0, by rw [h0], .inl h0⟩
    · exact ⟨_, cap, rfl, .inr ⟨g, rfl⟩⟩
  obtain ⟨a1, c1, rfl, ha1⟩ := hf
  have HG1 := Lib.hid (grownBy_trans HG0.out hg)
  have B1 := Lib.hid (blk_call B0.out hg (by simp))
  have N1 := Lib.hid (blk_call N0.out hg (by simp))
  have HR1 := Lib.hid (show w1.ownsRow (w.heap.size + 2) 25 4 (.slice a1 t.of.length c1) t.of.length cells by simpa using hrow)
  have HT1 := Lib.hid (RepTl.mono (S' := Sw S w) (fun _ hs _ => hs) (fun g hs hl => (HG1.out.block g hl (by simp))) _ _ HLl.out)
  have hz1 := HG1.out.size
  have hz2 := hg.size
  simp at hz2
  have hzz : w.heap.size < w1.heap.size := by omega
  obtain ⟨p0, p1, p2, p3, f0, f1, f2, f3⟩ := cells4_of w1 w.heap.size _ _ _ _ _ B1.out
  clear hrow hg B0 N0 HG0 HO HLl HC
  go_wp2_with fail
  have B2 := Lib.hid (show (w1.setCell ⟨w.heap.size, 3, none⟩ (.slice a1 t.of.length c1)).heap[w.heap.size]? = some (.cells #[.int .i64 t.kind, .int .i64 t.num, .string ⟨t.name.toArray⟩, .slice a1 t.of.length c1] 25 (0, 0)) by
    have h0 := B1.out
    simp [World.setCell, Array.getElem?_modify, h0])
  have K2 := Lib.hid (KeepsOn.setCell (S := fun g => g < w.heap.size ∨ w.heap.size + 1 ≤ g) (A := w1) (p := ⟨w.heap.size, 3, none⟩) (by simp) (.slice a1 t.of.length c1))
  have N2 := Lib.hid ((K2.out.2 (w.heap.size + 1) (.inr (Nat.le_refl _)) (lt_of_heap N1.out)).trans N1.out)
  have HG2 := Lib.hid (HG1.out.gr_set (p := ⟨w.heap.size, 3, none⟩) (Nat.le_refl _) (.slice a1 t.of.length c1))
  have HR2 := Lib.hid (ownsRow_same HR1.out (fun g hg => K2.out.2 g (.inr (by have := (HR1.out.lt g hg).1; omega)) (HR1.out.lt g hg).2))
  have HT2 := Lib.hid (RepTl.mono (S' := Sw S w) (fun _ hs _ => hs) (fun g hs hl => K2.out.2 g (.inl hs.2) hl) _ _ HT1.out)
  generalize w1.setCell ⟨w.heap.size, 3, none⟩ (.slice a1 t.of.length c1) = w2 at *
  clear p0 p1 p2 p3 f0 f1 f2 f3 B1 N1 HG1 HR1 HT1 K2
  have hlc : cells.length = t.of.length * 4 := RepTl.len _ _ HT2.out
  generalize hL : t.of.length = LL at *
  go_loopg [12] LL (fun g i wr => ∃ (k : Nat) (cs1 cs2 : List Value), g = LL - k ∧ k ≤ LL ∧ i = .int .i64 (k : Int) ∧ cs1.length = k * 4 ∧ Hid (w.grownBy wr none) ∧
    Hid (wr.heap[w.heap.size]? = some (.cells #[.int .i64 t.kind, .int .i64 t.num, .string ⟨t.name.toArray⟩, .slice a1 LL c1] 25 (0, 0))) ∧ Hid (wr.heap[w.heap.size + 1]? = some (.cells #[.int .i64 0, .int .i64 0, .string ⟨#[]⟩, .slice none 0 0] 25)) ∧
    Hid (wr.ownsRow (w.heap.size + 2) 25 4 (.slice a1 LL c1) LL (cs1 ++ cs2)) ∧ Hid (RepTl wr (fun g => w.heap.size + 2 ≤ g ∧ (Value.slice a1 LL c1).ownBlock ≠ some g) (t.of.take k) cs1) ∧ Hid (RepTl wr (Sw S w) (t.of.drop k) cs2))
  case atStart => exact ⟨0, [], cells, by simp, Nat.zero_le _, rfl, rfl, HG2.out, B2.out, N2.out, HR2.out, rfl, HT2.out⟩
  case round =>
    obtain ⟨k, cs1, cs2, rfl, hk, rfl, hc1, hgr, hb, hn, hrow, ht1, ht2⟩ := hrel
    obtain ⟨p0, p1, p2, p3, f0, f1, f2, f3⟩ := cells4_of wr w.heap.size _ _ _ _ _ hb.out
    obtain ⟨q0, q1, q2, q3, g0, g1, g2, g3⟩ := cells4_of wr (w.heap.size + 1) _ _ _ _ _ hn.out
    have hzr := lt_of_heap hn.out
    clear HG2 B2 N2 HR2 HT2
    by_cases hkl : k = LL
    · subst hkl
      have hlt : decide ((k : Int) < (k : Int)) = false := by simp
      go_wp2_with fail
      have htk : cs2 = [] := by
        have h0 := ht2.out
        rw [List.drop_eq_nil_of_le (by omega)] at h0
        exact h0
      subst htk
      have hR := hrow.out
      have hT := ht1.out
      rw [List.append_nil] at hR
      rw [List.take_of_length_le (by omega)] at hT
      have N9 := put4 hn.out (.int .i64 t.kind) (.int .i64 t.num) (.string ⟨t.name.toArray⟩) (.slice a1 k c1)
      have K9 := keepsOn4 (S := fun g => w.heap.size + 2 ≤ g) wr (b := w.heap.size + 1) (by omega) (.int .i64 t.kind) (.int .i64 t.num) (.string ⟨t.name.toArray⟩) (.slice a1 k c1)
      obtain ⟨s0, s1, s2, s3, _⟩ := cells4_of _ _ _ _ _ _ _ N9
      refine bodyPost_ret (v := .agg #[.int .i64 t.kind, .int .i64 t.num, .string ⟨t.name.toArray⟩, .slice a1 k c1]) (by simp [results, Tryz.results74, go_sem, s0, s1, s2, s3]) rfl ⟨?_, _, rfl, cs1, ?_, ?_, ?_⟩
      · exact (((hgr.out.gr_set (by simp) _).gr_set (by simp) _).gr_set (by simp) _).gr_set (by simp) _
      · have hR2 := ownsRow_same hR (fun g hg => K9.2 g (by have := (hR.lt g hg).1; omega) (hR.lt g hg).2)
        rw [hL]
        refine ⟨hR2.1, hR2.2.imp id ?_⟩
        rintro ⟨g, cap, cur, e1, e2, e3⟩
        exact ⟨g, cap, cur, e1, Nat.zero_le _, e3⟩
      · intro g hg
        have := (hR.lt g hg).1
        show w.heap.size ≤ g
        omega
      · exact RepTl.mono (fun g hs _ => by have := hs.1; show w.heap.size ≤ g; omega) (fun g hs hl => K9.2 g hs.1 hl) _ _ hT
    · have hlt : decide ((k : Int) < (LL : Int)) = true := by simp; omega
      have hkL : (k : Int) < (LL : Int) := by omega
      have hw : IntKind.i64.wrap ((k : Int) + 1) = (k : Int) + 1 := by rw [IntKind.wrap_i64]; omega
      obtain ⟨g0', rfl⟩ : ∃ g, a1 = some ⟨g, 0, none⟩ := ha1.elim (fun e => by omega) id
      have hd := List.drop_eq_getElem_cons (l := t.of) (i := k) (by omega)
      have hmem : t.of[k]'(by omega) ∈ t.of := List.getElem_mem _
      have htk : t.of.take (k + 1) = t.of.take k ++ [t.of[k]'(by omega)] := by rw [List.take_add_one, List.getElem?_eq_getElem (by omega)]; rfl
      generalize t.of[k]'(by omega) = u at *
      have ht2' := ht2.out
      rw [hd] at ht2'
      obtain ⟨cu, cr, rfl, hu, hr⟩ := ht2'
      have hu' : ∃ va vn vc, cu = [.int .i64 u.kind, .int .i64 u.num, .string ⟨u.name.toArray⟩, .slice va vn vc] ∧ RepOf wr (Sw S w) (.slice va vn vc) u.of := by
        cases u
        obtain ⟨ofv, rfl, hof⟩ := hu
        obtain ⟨va, vn, vc, rfl⟩ := RepOf.isSlice hof
        exact ⟨va, vn, vc, rfl, hof⟩
      obtain ⟨va, vn, vc, rfl, hof⟩ := hu'
      have HOf := Lib.hid hof
      have HRr := Lib.hid hr
      have hrw := row_cells4 hrow.out hc1
      obtain ⟨⟨r0, r1, r2, r3⟩, _⟩ := hrw
      have hgl := (hrow.out.lt g0' rfl)
      have hgl2 : g0' < wr.heap.size := hgl.2
      have hzw : w.heap.size < wr.heap.size := by omega
      have hgn1 : ¬ g0' = w.heap.size := by have := hgl.1; omega
      have hgn2 : ¬ w.heap.size = g0' := by have := hgl.1; omega
      have HKu := Lib.hid (fun S' w' ho' => HI.out u hmem (.slice va vn vc) S' w' ho')
      have HTK := Lib.hid htk
      have HD := Lib.hid hd
      clear hd hmem htk hu hr hof ht2
      unfold tyV at *
      go_wp2_with fail
      have H5 := Lib.hid (gr_alloc (grownBy_refl wr none) (.cells #[.int .i64 u.kind, .int .i64 u.num, .string ⟨u.name.toArray⟩, .slice va vn vc] 25 (0, 0)))
      go_region_law (first
        | (go_simp; go_at_call 74; refine (HKu.out (Sw S w) _ (HOf.out.grow H5.out.gr_drew)).mono ?_; rintro e wd ⟨hgd, v5, rfl, hrd⟩; obtain ⟨fa, fn, fc, rfl⟩ := RepOf.isSlice hrd; have HGd := Lib.hid (grownBy_trans H5.out (undrew hgd)); have HRd := Lib.hid hrd; obtain ⟨pp0, pp1, pp2, pp3, _⟩ := cells4_of wd w.heap.size _ _ _ _ _ (blk_call hb.out HGd.out (by simp)); obtain ⟨⟨s0, s1, s2, s3⟩, h0, h1, h2, h3⟩ := row_cells4 (ownsRow_call0 hrow.out HGd.out) hc1; have hz5 := HGd.out.size; have hz6 : w.heap.size < wd.heap.size := (by omega); have hz7 : g0' < wd.heap.size := (by omega); clear hgd hrd))
      all_goals
        go_wp2_with fail
        have K9 := keepsOnK (S := fun g => g ≠ g0') wd (b := g0') (by simp) (k * 4) (k * 4 + 1) (k * 4 + 2) (k * 4 + 3) (.int .i64 u.kind) (.int .i64 u.num) (.string ⟨u.name.toArray⟩) (.slice fa fn fc)
        have R9 := row_put4 (ownsRow_call0 hrow.out HGd.out) hc1 (.int .i64 u.kind) (.int .i64 u.num) (.string ⟨u.name.toArray⟩) (.slice fa fn fc)
        have G9 := ((((grownBy_trans hgr.out HGd.out).gr_set (p := ⟨g0', k * 4, none⟩) (by have := hgl.1; show _ ≤ g0'; omega) (.int .i64 u.kind)).gr_set (p := ⟨g0', k * 4 + 1, none⟩) (by have := hgl.1; show _ ≤ g0'; omega) (.int .i64 u.num)).gr_set (p := ⟨g0', k * 4 + 2, none⟩) (by have := hgl.1; show _ ≤ g0'; omega) (.string ⟨u.name.toArray⟩)).gr_set (p := ⟨g0', k * 4 + 3, none⟩) (by have := hgl.1; show _ ≤ g0'; omega) (.slice fa fn fc)
        have hbd := blk_call hb.out HGd.out (by simp)
        have hnd := blk_call hn.out HGd.out (by simp)
        have hb9 := (K9.2 w.heap.size hgn2 (lt_of_heap hbd)).trans hbd
        have hn9 := (K9.2 (w.heap.size + 1) (by have := hgl.1; omega) (lt_of_heap hnd)).trans hnd
        have T9 := RepTl.mono (w' := _) (S' := fun g => w.heap.size + 2 ≤ g ∧ (Value.slice (some ⟨g0', 0, none⟩) LL c1).ownBlock ≠ some g) (fun _ hs _ => hs) (fun g hs hg => (K9.2 g (fun e => hs.2 (by rw [e]; rfl)) (Nat.lt_of_lt_of_le hg HGd.out.size)).trans (HGd.out.block g hg (by simp))) _ _ ht1.out
        have U9 := HRd.out.mono (w' := _) (S' := fun g => w.heap.size + 2 ≤ g ∧ (Value.slice (some ⟨g0', 0, none⟩) LL c1).ownBlock ≠ some g) (fun g hs _ => by
          have h7 : wr.heap.size + 1 ≤ g := by simpa using hs
          exact ⟨by omega, by simp [Value.ownBlock]; omega⟩) (fun g hs hg => K9.2 g (by have h7 := (show wr.heap.size + 1 ≤ g by simpa using hs); show ¬ g = g0'; omega) hg)
        have D9 := RepTl.mono (w' := _) (S' := Sw S w) (fun _ hs _ => hs) (fun g hs hg => (K9.2 g (by have h7 := hs.2; have h8 := hgl.1; omega) (Nat.lt_of_lt_of_le hg HGd.out.size)).trans (HGd.out.block g hg (by simp))) _ _ HRr.out
        go_roundg (LL - (k + 1))
        case measure => omega
        case rel =>
          refine ⟨k + 1, cs1 ++ [.int .i64 u.kind, .int .i64 u.num, .string ⟨u.name.toArray⟩, .slice fa fn fc], cr, rfl, by omega, rfl, by simp [hc1]; omega, G9, hb9, hn9, by rw [List.append_assoc]; exact R9, ?_, D9⟩
          rw [HTK.out]
          exact RepTl.snoc _ _ _ _ T9 (RepT.of U9)
theorem clone_any : ∀ (n : Nat) (t : Ty), SizeOf.sizeOf t ≤ n → SlimT t → Clones t := by
  intro n
  induction n with
  | zero => intro t h _; cases t; simp at h
  | succ n ih =>
    intro t h hs
    refine clone_step t hs.len fun u hu => ih u ?_ (SlimL.mem hs.parts u hu)
    cases t with
    | mk k m nm of =>
      have h1 := List.sizeOf_lt_of_mem (show u ∈ of from hu)
      simp at h
      omega

end Go.Proofs.YtkbplcfehllbjaaGreatDoor
/- list of declarations: with where its row lies. -/
namespace Go.Proofs.YtkbplcfehllbjaaGreatDoor
open Go.RowKit
def ndsGrow (l : List Nd) (w0 w' : World) (v : Value) : Prop := (∃ a n c, v = .slice a n c) ∧ ∃ cells, GrowN w' w0.heap.size v l cells
set_option maxRecDepth 100000 in
set_option maxHeartbeats 8000000 in
theorem listN_grow (C : Ctx) (one : List T4 → PR Nd) (hsh : Shrinks one) (w : World) (i d : Nat) (h1 : RunsN 71 C d one) (h : Pr C w i d) :
    Calls Tryz.prog 73 #[C.p, .func (.func 71) #[C.p] #[]] w (Out C w d (listP one (C.toks.drop i)) (fun l => ndsGrow l w)) := by
  have HP := Lib.hid h.at
  have hlen := h.len
  have hbp := lt_of_heap h.blk
  have hi0 := h.lt
  have H1 := Lib.hid h1
  have hW := want_any C w i d h [40] (by simp)
  unfold listP
  generalize hR0 : wantP [40] (C.toks.drop i) = R0 at hW ⊢
  have HW := Lib.hid hW
  clear h hW h1
  go_enter Tryz.func73, Tryz.ntmps73
  go_wp2_with fail
  refine HW.out.mono ?_
  cases R0 with
  | err p er =>
    rintro e w1 ⟨hg, i1, d1, rfl, hdd, hp⟩
    exact ⟨rfl, (HP.out.turn hg hp).errOut rfl⟩
  | ok u r =>
    rintro e w1 ⟨hg, v1, i1, rfl, hv, hp, hd⟩
    have hv' : v1 = .tuple #[] := hv
    subst hv'
    subst hd
    have HA1 := Lib.hid (HP.out.turn hg hp)
    have hi1 := hp.lt
    clear hg hp hv HW
    cases hs : isP [41] (C.toks.drop i1) with
    | true =>
      have HY := Lib.hid (fun w' (h' : Pr C w' i1 d) => skip_yes C w' i1 d h' [41] (by simp) hs)
      have HS := Lib.hid hs
      clear hs
      go_wp2_with fail
      refine (HY.out _ HA1.out.pr).mono ?_
      rintro e w2 ⟨rfl, hg2, hp2⟩
      have HA2 := Lib.hid (HA1.out.turn hg2 hp2)
      clear hg2 hp2
      go_wp2_with fail
      go_ret
      exact HA2.out.okOut (a := []) (rest := C.toks.drop (i1 + 1)) (by show (if _ then _ else _) = _; rw [if_pos HS.out, tl_at]) ⟨⟨_, _, _, rfl⟩, [], GrowN.nil _ _⟩ rfl
    | false =>
      have HN := Lib.hid (fun w' (h' : Pr C w' i1 d) => skip_no C w' i1 d h' [41] hs)
      have HS := Lib.hid hs
      clear hs
      go_wp2_with fail
      refine (HN.out _ HA1.out.pr).mono ?_
      rintro e w2 ⟨rfl, hg2⟩
      have HA2 := Lib.hid (HA1.out.call hg2)
      clear hg2
      go_wp2_with fail
      go_loopg [5] (C.toks.length - i1) (fun g v wr => ∃ (i' n : Nat) (acc : List Nd) (cells : List Value), g = C.toks.length - i' ∧ i' < C.toks.length ∧ acc.length < 6 ∧ C.toks.length - i' < n ∧ Hid (At C w wr i' d) ∧ Hid (GrowN wr w.heap.size v acc cells) ∧ Hid (loopP (listStep one) ((C.toks.drop i1).length + 1) [] (C.toks.drop i1) = loopP (listStep one) n acc (C.toks.drop i')))
      case atStart => exact ⟨i1, (C.toks.drop i1).length + 1, [], [], rfl, hi1, by simp, by simp, HA2.out, GrowN.nil _ _, rfl⟩
      case round =>
        obtain ⟨i', n, acc, cells, rfl, hi', hacc, hn, hat, hgr, hL⟩ := hrel
        obtain ⟨m, rfl⟩ : ∃ m, n = m + 1 := ⟨n - 1, by omega⟩
        have h1' := H1.out wr i' hat.out.pr
        have hshr := hsh (C.toks.drop i')
        generalize hR1 : one (C.toks.drop i') = R1 at h1' hshr
        have HC := Lib.hid h1'
        clear h1'
        go_wp2_with fail
        refine HC.out.mono ?_
        cases R1 with
        | err p er =>
          rintro e w3 ⟨hg3, i3, d3, rfl, hdd, hp3⟩
          exact ⟨rfl, (hat.out.turn hg3 hp3).errOut (by show (if _ then _ else _) = _; rw [if_neg (by rw [HS.out]; simp), hL.out, list_err hR1])⟩
        | ok a r =>
          rintro e w3 ⟨hg3, v3, i3, rfl, ⟨ofv, kv, rfl, hof, hkv⟩, hp3, rfl⟩
          have hi3 := hp3.lt
          have hsm : i' < i3 := by have := hshr _ _ (drop_ne hi') rfl; simp at this; omega
          have hown := fun k hk => (hgr.out.lt k hk).2
          obtain ⟨sa, sn, sc, rfl⟩ := hof.isSlice
          obtain ⟨ka, kn, kc, rfl⟩ := hkv.isSlice
          have HOF := Lib.hid (GrowT.fresh hof (hat.out.gr.size) hown)
          have HKV := Lib.hid (GrowN.freshK hkv (hat.out.gr.size) hown)
          have HG3 := Lib.hid (hgr.out.call hg3 hbp)
          have HA3 := Lib.hid (hat.out.turn hg3 hp3)
          have HR1 := Lib.hid hR1
          have hz3 := HA3.out.gr.size
          obtain ⟨i0, hi, hz0, hz1, hz2⟩ := info_parts infoNd
          clear hg3 hp3 hof hkv hshr hown hR1 HC
          unfold ndV
          go_wp2_with (at_builtin; go_must (refine wpList_append_lies _ rfl (.tmp 11) (.tmp 14) 26 rfl w.heap.size 28 i0 _ 8 112 Tryz.underlying26 hi hz0 hz1 hz2 rfl (by decide) _ acc.length cells rfl (HG3.out.call0 (gr_alloc (grownBy_refl _ _) _)).1 ⟨w3.heap.size, 0, none⟩ 1 1 (ndC a (.slice sa sn sc) (.slice ka kn kc)) rfl rfl ?_ ?_ (by omega) ?_ ?_ ?_ (w3.heap.size + 1) ?_ ?_))
          · exact cells_at _ _ _ _
          · intro u hu; simp [ndC] at hu; rcases hu with rfl | rfl | rfl | rfl | rfl | rfl | rfl | rfl <;> rfl
          · unfold maxLen; omega
          · omega
          · simp; omega
          · simp
          intro g cap w4 hown' hgrow hat' hlt'
          have HG4 := Lib.hid (GrowN.push (HG3.out.call0 (gr_alloc (grownBy_refl _ _) _)) (HOF.out.grow (gr_alloc (grownBy_refl _ _) _)) (HKV.out.grow (gr_alloc (grownBy_refl _ _) _)) hown' hgrow hat' (by simp))
          have HA4 := Lib.hid ((HA3.out.alloc _).app hgrow (fun k hk => (HG3.out.lt k hk).1))
          clear hown' hgrow hat' hlt' hi hz0 hz1 hz2
          have hl1 : (acc ++ [a]).length = acc.length + 1 := by simp
          cases hs2 : isP [44] (C.toks.drop i3) with
          | false =>
            have HN2 := Lib.hid (fun w' (h' : Pr C w' i3 d) => is_is false C w' i3 d h' [44] hs2)
            have HE := Lib.hid (show (if isP [41] (C.toks.drop i1) = true then PR.ok [] (C.toks.drop i1).tail else loopP (listStep one) ((C.toks.drop i1).length + 1) [] (C.toks.drop i1)) = _ by rw [if_neg (by rw [HS.out]; simp), hL.out, list_end HR1.out hs2])
            clear hs2
            go_wp2_with fail
            refine (HN2.out _ HA4.out.pr).mono ?_
            rintro e w5 ⟨rfl, hg5⟩
            have HA5 := Lib.hid (HA4.out.call hg5)
            have HG5 := Lib.hid (HG4.out.call0 hg5)
            clear hg5
            go_wp2_with fail
            refine (want_any C _ i3 d HA5.out.pr [41] (by simp)).mono ?_
            generalize wantP [41] (C.toks.drop i3) = R2 at HE
            cases R2 with
            | err p er =>
              rintro e w6 ⟨hg6, i6, d6, rfl, hdd, hp6⟩
              exact ⟨rfl, (HA5.out.turn hg6 hp6).errOut HE.out⟩
            | ok u r6 =>
              rintro e w6 ⟨hg6, v6, i6, rfl, hv6, hp6, hd6⟩
              have HA6 := Lib.hid (HA5.out.turn hg6 hp6)
              have HG6 := Lib.hid (HG5.out.call hg6 hbp)
              have hv6' : v6 = .tuple #[] := hv6
              subst hv6'
              have HD6 := Lib.hid hd6
              clear hg6 hp6 hv6 hd6
              go_wp2_with fail
              go_ret
              exact HA6.out.okOut HE.out ⟨⟨_, _, _, rfl⟩, _, HG6.out⟩ HD6.out
          | true =>
            have HY2 := Lib.hid (fun w' (h' : Pr C w' i3 d) => is_is true C w' i3 d h' [44] hs2)
            have HS2 := Lib.hid hs2
            clear hs2
            go_wp2_with fail
            refine (HY2.out _ HA4.out.pr).mono ?_
            rintro e w5 ⟨rfl, hg5⟩
            have HA5 := Lib.hid (HA4.out.call hg5)
            have HG5 := Lib.hid (HG4.out.call0 hg5)
            clear hg5
            by_cases h6 : acc.length = 5
            · have l6 : ((acc.length : Int) + 1 == 6) = true := by simp; omega
              have HE := Lib.hid (show (if isP [41] (C.toks.drop i1) = true then PR.ok [] (C.toks.drop i1).tail else loopP (listStep one) ((C.toks.drop i1).length + 1) [] (C.toks.drop i1)) = _ by rw [if_neg (by rw [HS.out]; simp), hL.out, list_six HR1.out HS2.out (by omega)])
              clear h6
              go_wp2_with fail
              refine (fail_any 5 C _ i3 d HA5.out.pr).mono ?_
              rintro e w6 ⟨rfl, hg6⟩
              exact ⟨rfl, (HA5.out.call hg6).errOut HE.out⟩
            · have l6 : ((acc.length : Int) + 1 == 6) = false := by simp; omega
              have HE := Lib.hid (hL.out.trans (list_more HR1.out HS2.out (by omega)))
              have hwt : wantP [44] (C.toks.drop i3) = .ok () (C.toks.drop (i3 + 1)) := by unfold wantP; rw [if_pos HS2.out, tl_at]
              have HW2 := Lib.hid (want_any C _ i3 d HA5.out.pr [44] (by simp))
              rw [hwt] at HW2
              have hl2 := next_lt HA5.out.pr (by simp) HS2.out
              clear hwt
              go_wp2_with fail
              refine HW2.out.mono ?_
              rintro e w6 ⟨hg6, v6, i6, rfl, hv6, hp6, hd6⟩
              have HA6 := Lib.hid (HA5.out.turn hg6 hp6)
              have HG6 := Lib.hid (HG5.out.call hg6 hbp)
              have hv6' : v6 = .tuple #[] := hv6
              subst hv6'
              have hi6 := hp6.lt
              have hi7 : i6 = i3 + 1 := by
                have e := congrArg List.length hd6
                simp at e; omega
              subst hi7
              clear hg6 hp6 hv6 hd6 HW2
              go_wp2_with fail
              go_roundg (C.toks.length - (i3 + 1))
              case measure => omega
              case rel => exact ⟨i3 + 1, m, acc ++ [a], _, rfl, hi6, by simp; omega, by omega, HA6.out, HG6.out, by rw [← tl_at]; exact HE.out⟩

end Go.Proofs.YtkbplcfehllbjaaGreatDoor
/- function: its parts' facts. -/
namespace Go.Proofs.YtkbplcfehllbjaaGreatDoor
open Go.RowKit
attribute [local go_sem ↓] Go.wp_at_zero Go.wp_at_succ
theorem loop_all {α : Type} {one : List T4 → PR α} {p : α → Prop} (h : ∀ ts a r, one ts = .ok a r → p a) : ∀ (m : Nat) (l : List α) (ts : List T4) (l' : List α) (r : List T4), (∀ a ∈ l, p a) → loopP (listStep one) m l ts = .ok l' r → ∀ a ∈ l', p a := by
  intro m
  induction m with
  | zero => intro l ts l' r _ e; cases e
  | succ m ih =>
    intro l ts l' r hl e
    simp only [loopP, listStep] at e
    cases h1 : one ts with
    | err p er => rw [h1] at e; cases e
    | ok a r1 =>
      rw [h1] at e
      simp only [PR.bind_ok] at e
      have ha := h ts a r1 h1
      have hl2 : ∀ x ∈ l ++ [a], p x := fun x hx => by
        rcases List.mem_append.1 hx with e | e
        · exact hl x e
        · simp at e; rw [e]; exact ha
      by_cases hc : isP [44] r1 = true
      · rw [if_pos hc] at e
        by_cases h6 : (l ++ [a]).length = 6
        · rw [if_pos h6] at e; cases e
        · rw [if_neg h6] at e
          exact ih _ _ _ _ hl2 e
      · rw [if_neg hc] at e
        cases h2 : wantP [41] r1 with
        | err p er => rw [h2] at e; cases e
        | ok u r2 => rw [h2] at e; cases e; exact hl2
theorem listP_all {α : Type} {one : List T4 → PR α} {p : α → Prop} (h : ∀ ts a r, one ts = .ok a r → p a) {ts : List T4} {l : List α} {r : List T4} (e : listP one ts = .ok l r) : ∀ a ∈ l, p a := by
  unfold listP at e
  cases h1 : wantP [40] ts with
  | err p er => rw [h1] at e; cases e
  | ok u r1 =>
    rw [h1, PR.bind_ok] at e
    by_cases hc : isP [41] r1 = true
    · rw [if_pos hc] at e; cases e; intro a ha; cases ha
    · rw [if_neg hc] at e
      exact loop_all h _ _ _ _ _ (fun a ha => by cases ha) e
/-- What stands while a function's parts are read. -/
structure FnAt (C : Ctx) (w : World) (i d Z L1 H1 : Nat) (nm : List UInt8) (B : Nat) (X : List Nat) (tl : List Ty) (tg tc : Nat) (tcells : List Value) (kv : Value) (ps : List Nd) (cellsK : List Value) (wr : World) : Prop where
  pos : At C w wr i d
  z : wr.heap[Z]? = some (.cells #[.int .i64 0, .string ⟨#[]⟩, .int .i64 0, .int .i64 0, .int .i64 0, .string ⟨#[]⟩, .slice none 0 0, .slice none 0 0] 28)
  n : wr.heap[L1]? = some (.cells #[.int .i64 22, .string ⟨nm.toArray⟩, .int .i64 0, .int .i64 9, .int .i64 0, .string ⟨#[]⟩, .slice (some ⟨tg, 0, none⟩) tl.length tc, kv] 28 (0, 0))
  tr : wr.ownsRow H1 25 4 (.slice (some ⟨tg, 0, none⟩) tl.length tc) tl.length tcells
  tt : RepTl wr (fun g => (Sw (Sx B X) w g ∨ H1 ≤ g) ∧ g ≠ tg) tl tcells
  kr : wr.ownsRow (L1 + 1) 28 8 kv ps.length cellsK
  kk : RepNl wr (fun g => L1 + 1 ≤ g ∧ g < H1 ∧ kv.ownBlock ≠ some g) ps cellsK
  kb : ∀ g, kv.ownBlock = some g → g < H1
section
variable {C : Ctx} {w wr w' : World} {i d i' d' Z L1 H1 : Nat} {nm : List UInt8} {B : Nat} {X : List Nat} {tl : List Ty} {tg tc : Nat} {tcells : List Value} {kv : Value} {ps : List Nd} {cellsK : List Value}
theorem FnAt.grown (h : FnAt C w i d Z L1 H1 nm B X tl tg tc tcells kv ps cellsK wr) (g : wr.grownBy w' none) : FnAt C w i d Z L1 H1 nm B X tl tg tc tcells kv ps cellsK w' :=
  ⟨h.pos.call g, blk_call h.z g (by simp), blk_call h.n g (by simp), ownsRow_call0 h.tr g, RepTl.mono (fun _ hs _ => hs) (fun k _ hk => g.block k hk (by simp)) _ _ h.tt, ownsRow_call0 h.kr g, RepNl.mono (fun _ hs _ => hs) (fun k _ hk => g.block k hk (by simp)) _ _ h.kk, h.kb⟩
theorem FnAt.turn (h : FnAt C w i d Z L1 H1 nm B X tl tg tc tcells kv ps cellsK wr) (g : wr.grownBy w' (some C.bp)) (p : Pr C w' i' d') (hB : C.bp < B) (hZ : C.bp < Z) (hL : C.bp < L1) (hH : L1 < H1) : FnAt C w i' d' Z L1 H1 nm B X tl tg tc tcells kv ps cellsK w' :=
  ⟨h.pos.turn g p, blk_call h.z g (by simp; omega), blk_call h.n g (by simp; omega), ownsRow_call h.tr g (by omega),
    RepTl.mono (fun _ hs _ => hs) (fun k hs hk => g.block k hk (by rcases hs.1 with e | e; have := e.1.1; simp; omega; simp; omega)) _ _ h.tt, ownsRow_call h.kr g (by omega),
    RepNl.mono (fun _ hs _ => hs) (fun k hs hk => g.block k hk (by have := hs.1; simp; omega)) _ _ h.kk, h.kb⟩
/-- One type more. -/
theorem FnAt.more {a : Ty} {ofv : Value} {g cap H : Nat} (h : FnAt C w i d Z L1 H1 nm B X tl tg tc tcells kv ps cellsK wr) (hw : w.heap.size ≤ Z) (hZ : Z < L1) (hL : L1 < H1) (hof : RepOf wr (fun k => H1 ≤ k ∧ k ≠ tg) ofv a.of)
    (ho : w'.ownsRow H1 25 4 (.slice (some ⟨g, 0, none⟩) (tl.length + 1) cap) (tl.length + 1) (tcells ++ tyC a ofv)) (hg : wr.grownBy w' (some tg)) (hat : tg = g ∨ g = H) (hH : wr.heap.size = H) :
    FnAt C w i d Z L1 H1 nm B X (tl ++ [a]) g cap (tcells ++ tyC a ofv) kv ps cellsK (w'.setCell ⟨L1, 6, none⟩ (.slice (some ⟨g, 0, none⟩) (tl.length + 1) cap)) := by
  have htg : H1 ≤ tg := (h.tr.lt tg rfl).1
  have hgH : H1 ≤ g := by
    rcases hat with e | e
    · omega
    · have := (h.tr.lt tg rfl).2; omega
  have K := KeepsOn.setCell (S := fun k => k ≠ L1) (A := w') (p := ⟨L1, 6, none⟩) (by simp) (.slice (some ⟨g, 0, none⟩) (tl.length + 1) cap)
  have hz := blk_call h.z hg (by simp; omega)
  have hn := blk_call h.n hg (by simp; omega)
  have htl : (tl ++ [a]).length = tl.length + 1 := by simp
  refine ⟨(h.pos.app hg (fun k hk => by cases hk; omega)).set (p := ⟨L1, 6, none⟩) (by show _ ≤ L1; omega) _, (K.2 Z (by omega) (lt_of_heap hz)).trans hz, ?_, ?_, ?_, ?_, ?_, h.kb⟩
  · simp [World.setCell, Array.getElem?_modify, hn]
  · rw [htl]
    exact ownsRow_same ho (fun k hk => K.2 k (by have := (ho.lt k hk).1; omega) (ho.lt k hk).2)
  · have T1 := RepTl.mono (w' := w'.setCell ⟨L1, 6, none⟩ (.slice (some ⟨g, 0, none⟩) (tl.length + 1) cap)) (S' := fun k => (Sw (Sx B X) w k ∨ H1 ≤ k) ∧ k ≠ g) (fun k hs hk => ⟨hs.1, by
      rcases hat with e | e
      · rw [← e]; exact hs.2
      · omega⟩) (fun k hs hk => (K.2 k (by rcases hs.1 with e | e; have := e.2; omega; omega) (Nat.lt_of_lt_of_le hk hg.size)).trans (hg.block k hk (by simp; intro e; exact hs.2 e))) _ _ h.tt
    have A1 := hof.mono (w' := w'.setCell ⟨L1, 6, none⟩ (.slice (some ⟨g, 0, none⟩) (tl.length + 1) cap)) (S' := fun k => (Sw (Sx B X) w k ∨ H1 ≤ k) ∧ k ≠ g) (fun k hs hk => ⟨.inr hs.1, by
      rcases hat with e | e
      · rw [← e]; exact hs.2
      · omega⟩) (fun k hs hk => (K.2 k (by have := hs.1; omega) (Nat.lt_of_lt_of_le hk hg.size)).trans (hg.block k hk (by simp; intro e; exact hs.2 e)))
    exact RepTl.snoc _ _ _ _ T1 (RepT.of A1)
  · exact ownsRow_same h.kr (fun k hk => by
      have h1 := h.kr.lt k hk
      have h2 := h.kb k hk
      exact (K.2 k (by omega) (Nat.lt_of_lt_of_le h1.2 hg.size)).trans (hg.block k h1.2 (by simp; omega)))
  · exact RepNl.mono (fun _ hs _ => hs) (fun k hs hk => (K.2 k (by have := hs.1; omega) (Nat.lt_of_lt_of_le hk hg.size)).trans (hg.block k hk (by have := hs.2.1; simp; omega))) _ _ h.kk
/-- The body behind the parts. -/
theorem FnAt.last {b : Nd} {ofv kb : Value} {g cap H : Nat} (h : FnAt C w i d Z L1 H1 nm B X tl tg tc tcells kv ps cellsK wr) (hw : w.heap.size ≤ Z) (hZ : Z < L1) (hL : L1 < H1) (hof : RepOf wr (fun k => H1 ≤ k) ofv b.typ.of) (hkb : RepK wr (fun k => H1 ≤ k) kb b.kids)
    (ho : w'.ownsRow (L1 + 1) 28 8 (.slice (some ⟨g, 0, none⟩) (ps.length + 1) cap) (ps.length + 1) (cellsK ++ ndC b ofv kb)) (hg : wr.grownBy w' kv.ownBlock) (hat : kv.ownBlock = some g ∨ g = H) (hH : wr.heap.size = H) :
    At C w (w'.setCell ⟨L1, 7, none⟩ (.slice (some ⟨g, 0, none⟩) (ps.length + 1) cap)) i d ∧ (w'.setCell ⟨L1, 7, none⟩ (.slice (some ⟨g, 0, none⟩) (ps.length + 1) cap)).heap[Z]? = some (.cells #[.int .i64 0, .string ⟨#[]⟩, .int .i64 0, .int .i64 0, .int .i64 0, .string ⟨#[]⟩, .slice none 0 0, .slice none 0 0] 28) ∧
    (w'.setCell ⟨L1, 7, none⟩ (.slice (some ⟨g, 0, none⟩) (ps.length + 1) cap)).heap[L1]? = some (.cells #[.int .i64 22, .string ⟨nm.toArray⟩, .int .i64 0, .int .i64 9, .int .i64 0, .string ⟨#[]⟩, .slice (some ⟨tg, 0, none⟩) tl.length tc, .slice (some ⟨g, 0, none⟩) (ps.length + 1) cap] 28 (0, 0)) ∧
    RepOf (w'.setCell ⟨L1, 7, none⟩ (.slice (some ⟨g, 0, none⟩) (ps.length + 1) cap)) (fun k => Sw (Sx B X) w k ∨ H1 ≤ k) (.slice (some ⟨tg, 0, none⟩) tl.length tc) tl ∧
    RepK (w'.setCell ⟨L1, 7, none⟩ (.slice (some ⟨g, 0, none⟩) (ps.length + 1) cap)) (fun k => L1 + 1 ≤ k) (.slice (some ⟨g, 0, none⟩) (ps.length + 1) cap) (ps ++ [b]) := by
  have hown : ∀ k, kv.ownBlock = some k → L1 + 1 ≤ k ∧ k < H1 := fun k hk => ⟨(h.kr.lt k hk).1, h.kb k hk⟩
  have K := KeepsOn.setCell (S := fun k => k ≠ L1) (A := w') (p := ⟨L1, 7, none⟩) (by simp) (.slice (some ⟨g, 0, none⟩) (ps.length + 1) cap)
  have hz := blk_call h.z hg (fun e => by have := hown _ e; omega)
  have hn := blk_call h.n hg (fun e => by have := hown _ e; omega)
  have hgn : GrowN wr (L1 + 1) kv ps cellsK := ⟨h.kr, RepNl.mono (fun k hs _ => ⟨hs.1, hs.2.2⟩) (fun _ _ _ => rfl) _ _ h.kk⟩
  have hpush := GrowN.push hgn (hof.mono (fun k hs _ => ⟨by have : H1 ≤ k := hs; omega, fun e => by have := hown k e; have : H1 ≤ k := hs; omega⟩) (fun _ _ _ => rfl)) (hkb.mono (fun k hs _ => ⟨by have : H1 ≤ k := hs; omega, fun e => by have := hown k e; have : H1 ≤ k := hs; omega⟩) (fun _ _ _ => rfl)) ho hg hat hH
  refine ⟨(h.pos.app hg (fun k hk => by have := hown k hk; omega)).set (p := ⟨L1, 7, none⟩) (by show _ ≤ L1; omega) _, (K.2 Z (by omega) (lt_of_heap hz)).trans hz, ?_, ?_, ?_⟩
  · simp [World.setCell, Array.getElem?_modify, hn]
  · have hR : RepOf wr (fun k => Sw (Sx B X) w k ∨ H1 ≤ k) (.slice (some ⟨tg, 0, none⟩) tl.length tc) tl :=
      ⟨tcells, ⟨h.tr.1, h.tr.2.imp id fun ⟨g, cap, cur, e, _, r⟩ => ⟨g, cap, cur, e, Nat.zero_le _, r⟩⟩, fun k hk => .inr (h.tr.lt k hk).1, RepTl.mono (fun k hs _ => hs.1) (fun _ _ _ => rfl) _ _ h.tt⟩
    exact hR.mono (fun _ hs _ => hs) (fun k hs hk => (K.2 k (by rcases hs with e | e; have := e.2; omega; omega) (Nat.lt_of_lt_of_le hk hg.size)).trans (hg.block k hk (fun e => by have := hown k e.symm; rcases hs with e | e; have := e.2; omega; omega)))
  · have := (GrowN.set hpush (p := ⟨L1, 7, none⟩) (by show L1 < L1 + 1; omega) (.slice (some ⟨g, 0, none⟩) (ps.length + 1) cap)).done
    exact this
end
/-- The k-th node of a row. -/
theorem RepNl.at {w : World} {S : Nat → Prop} : ∀ (l : List Nd) (cs : List Value), RepNl w S l cs → ∀ (k : Nat) (h : k < l.length), ∃ (c1 c2 : List Value) (oa ka : Option Addr) (on oc kn kc : Nat), cs = c1 ++ (ndC l[k] (.slice oa on oc) (.slice ka kn kc) ++ c2) ∧ c1.length = k * 8 ∧ RepOf w S (.slice oa on oc) (l[k]).typ.of
  | [], cs, _, k, h => absurd h (by simp)
  | a :: l, cs, ⟨d1, d2, hd, h1, h2⟩, 0, _ => by
    cases a with
    | mk k tx n t kids =>
      obtain ⟨ofv, kv, rfl, hof, hk⟩ := h1
      obtain ⟨oa, on, oc, rfl⟩ := hof.isSlice
      obtain ⟨ka, kn, kc, rfl⟩ := RepK.isSlice hk
      exact ⟨[], d2, oa, ka, on, oc, kn, kc, hd, rfl, hof⟩
  | a :: l, cs, ⟨d1, d2, hd, h1, h2⟩, k + 1, h => by
    obtain ⟨c1, c2, oa, ka, on, oc, kn, kc, e1, e2, e3⟩ := RepNl.at l d2 h2 k (by simpa using h)
    have hl : d1.length = 8 := by
      cases a with
      | mk k tx n t kids => obtain ⟨ofv, kv, rfl, _⟩ := h1; rfl
    exact ⟨d1 ++ c1, c2, oa, ka, on, oc, kn, kc, by rw [hd, e1, List.append_assoc]; rfl, by rw [List.length_append, hl, e2]; omega, e3⟩
theorem row_cells8 {w : World} {B e n cap k g : Nat} {c1 c2 : List Value} {x0 x1 x2 x3 x4 x5 x6 x7 : Value} (h : w.ownsRow B e 8 (.slice (some ⟨g, 0, none⟩) n cap) n (c1 ++ ([x0, x1, x2, x3, x4, x5, x6, x7] ++ c2))) (hk : c1.length = k * 8) :
    w.cell? ⟨g, k * 8, none⟩ = some x0 ∧ w.cell? ⟨g, k * 8 + 1, none⟩ = some x1 ∧ w.cell? ⟨g, k * 8 + 2, none⟩ = some x2 ∧ w.cell? ⟨g, k * 8 + 3, none⟩ = some x3 ∧ w.cell? ⟨g, k * 8 + 4, none⟩ = some x4 ∧ w.cell? ⟨g, k * 8 + 5, none⟩ = some x5 ∧ w.cell? ⟨g, k * 8 + 6, none⟩ = some x6 ∧ w.cell? ⟨g, k * 8 + 7, none⟩ = some x7 := by
  rcases h.2 with ⟨h0, _⟩ | ⟨g', cap', cur, hv, hg, hh, hn, hc, hs, ht⟩
  · cases h0
  · simp only [Value.slice.injEq, Option.some.injEq, Addr.mk.injEq] at hv
    obtain ⟨⟨rfl, _, _⟩, _, rfl⟩ := hv
    have hat : ∀ j u, (c1 ++ ([x0, x1, x2, x3, x4, x5, x6, x7] ++ c2))[j]? = some u → w.cell? ⟨g, j, none⟩ = some u := fun j u hu => by
      have h1 := World.news_of_block hh j u (by
        rw [← ht, List.getElem?_take] at hu
        split at hu
        · exact hu
        · cases hu)
      have hadd : (⟨g, 0, none⟩ : Addr).add j = ⟨g, j, none⟩ := by unfold Addr.add; split <;> simp_all
      rwa [hadd] at h1
    refine ⟨hat _ _ ?_, hat _ _ ?_, hat _ _ ?_, hat _ _ ?_, hat _ _ ?_, hat _ _ ?_, hat _ _ ?_, hat _ _ ?_⟩
    · rw [List.getElem?_append_right (by omega), hk, Nat.sub_self]; rfl
    · rw [List.getElem?_append_right (by omega), hk, show k * 8 + 1 - k * 8 = 1 by omega]; rfl
    · rw [List.getElem?_append_right (by omega), hk, show k * 8 + 2 - k * 8 = 2 by omega]; rfl
    · rw [List.getElem?_append_right (by omega), hk, show k * 8 + 3 - k * 8 = 3 by omega]; rfl
    · rw [List.getElem?_append_right (by omega), hk, show k * 8 + 4 - k * 8 = 4 by omega]; rfl
    · rw [List.getElem?_append_right (by omega), hk, show k * 8 + 5 - k * 8 = 5 by omega]; rfl
    · rw [List.getElem?_append_right (by omega), hk, show k * 8 + 6 - k * 8 = 6 by omega]; rfl
    · rw [List.getElem?_append_right (by omega), hk, show k * 8 + 7 - k * 8 = 7 by omega]; rfl

end Go.Proofs.YtkbplcfehllbjaaGreatDoor
/- record. -/
namespace Go.Proofs.YtkbplcfehllbjaaGreatDoor
open Go.RowKit
attribute [local go_sem ↓] Go.wp_at_zero Go.wp_at_succ
/-- An item's node: its type in S's blocks, or in new ones; its kids in new ones. -/
def itemPost (S : Nat → Prop) (n : Nat) (u : Nd) (w' : World) (v : Value) : Prop := ∃ ofv kv, v = ndV u ofv kv ∧ RepOf w' (Su S n) ofv u.typ.of ∧ RepK w' (Su S n) kv u.kids
set_option maxRecDepth 100000 in
set_option maxHeartbeats 4000000 in
theorem record_any (C : Ctx) (d : Nat) (R : Rec) (L : Lev C d R) (t : Ty) (ofv : Value) (B : Nat) (X : List Nat) (hbB : C.bp < B) (w : World) (i : Nat) (h : Pr C w i d) (hr : RepOf w (Sx B X) ofv t.of) :
    Calls Tryz.prog 53 #[C.p, tyV t ofv] w (Out C w d (recordP R t (C.toks.drop i)) (itemPost (Sx B X) w.heap.size)) := by
  obtain ⟨sa, sn, sc, rfl⟩ := hr.isSlice
  have HP := Lib.hid h.at
  have hbp := lt_of_heap h.blk
  have hlen := h.len
  have HX := Lib.hid (decl_any C d R L)
  have HSh := Lib.hid (Shr.decl L.shr)
  have HR := Lib.hid hr.sw
  have HbB := Lib.hid hbB
  have hp : C.p = .pointer (some ⟨C.bp, 0, none⟩) := rfl
  unfold recordP
  have HW := Lib.hid (fun w' (h' : Pr C w' i d) => want_any C w' i d h' [123] (by simp))
  generalize wantP [123] (C.toks.drop i) = R0 at HW ⊢
  clear h L hr
  unfold tyV
  go_enter Tryz.func53, Tryz.ntmps53
  go_wp2_with fail
  have HA0 := Lib.hid (((HP.out.alloc (.cells #[.int .i64 t.kind, .int .i64 t.num, .string ⟨t.name.toArray⟩, .slice sa sn sc] 25 (0, 0))).alloc (.cells #[.int .i64 0, .string ⟨#[]⟩, .int .i64 0, .int .i64 0, .int .i64 0, .string ⟨#[]⟩, .slice none 0 0, .slice none 0 0] 28)).alloc (.cells #[.int .i64 20, .string ⟨#[]⟩, .int .i64 0, .int .i64 t.kind, .int .i64 t.num, .string ⟨t.name.toArray⟩, .slice sa sn sc, .slice none 0 0] 28))
  have B0 := Lib.hid (blk_alloc (blk_new2 w (.cells #[.int .i64 t.kind, .int .i64 t.num, .string ⟨t.name.toArray⟩, .slice sa sn sc] 25 (0, 0)) (.cells #[.int .i64 0, .string ⟨#[]⟩, .int .i64 0, .int .i64 0, .int .i64 0, .string ⟨#[]⟩, .slice none 0 0, .slice none 0 0] 28)) (.cells #[.int .i64 20, .string ⟨#[]⟩, .int .i64 0, .int .i64 t.kind, .int .i64 t.num, .string ⟨t.name.toArray⟩, .slice sa sn sc, .slice none 0 0] 28))
  have N0 := Lib.hid (blk_new ((w.alloc (.cells #[.int .i64 t.kind, .int .i64 t.num, .string ⟨t.name.toArray⟩, .slice sa sn sc] 25 (0, 0))).alloc (.cells #[.int .i64 0, .string ⟨#[]⟩, .int .i64 0, .int .i64 0, .int .i64 0, .string ⟨#[]⟩, .slice none 0 0, .slice none 0 0] 28)) (.cells #[.int .i64 20, .string ⟨#[]⟩, .int .i64 0, .int .i64 t.kind, .int .i64 t.num, .string ⟨t.name.toArray⟩, .slice sa sn sc, .slice none 0 0] 28))
  rw [show ((w.alloc (.cells #[.int .i64 t.kind, .int .i64 t.num, .string ⟨t.name.toArray⟩, .slice sa sn sc] 25 (0, 0))).alloc (.cells #[.int .i64 0, .string ⟨#[]⟩, .int .i64 0, .int .i64 0, .int .i64 0, .string ⟨#[]⟩, .slice none 0 0, .slice none 0 0] 28)).heap.size = w.heap.size + 2 by simp] at N0
  refine (HW.out _ HA0.out.pr).mono ?_
  rcases R0 with ⟨u, r⟩ | ⟨p, er⟩
  · rintro e w1 ⟨hg, v1, i1, rfl, hv, hp1, rfl⟩
    have hv' : v1 = .tuple #[] := hv
    subst hv'
    have HA1 := Lib.hid (HA0.out.turn hg hp1)
    have B1 := Lib.hid (blk_call B0.out hg (by simp; omega))
    have N1 := Lib.hid (blk_call N0.out hg (by simp; omega))
    have hz1 := hg.size
    simp at hz1
    have hi1 := hp1.lt
    clear hg hp1 hv HA0 B0 N0 HP HW
    have hwZ : w.heap.size < w.heap.size + 1 := by omega
    have hZL : w.heap.size + 1 < w.heap.size + 2 := by omega
    have hbL : C.bp < w.heap.size + 2 := by omega
    have hL1 : w.heap.size + 2 < w1.heap.size := by omega
    rw [show w.heap.size + 1 + 1 = w.heap.size + 2 from rfl]
    generalize w.heap.size + 2 = L1 at *
    generalize w.heap.size + 1 = Z at *
    have hwL' : ¬ Z = L1 := by omega
    have hLb : ¬ L1 = C.bp := by omega
    have hwb : ¬ Z = C.bp := by omega
    go_wp2_with fail
    go_loopg [] (C.toks.length - i1) (fun g wr => ∃ (i' m : Nat) (l : List Nd) (va : Option Addr) (vn vc : Nat) (cells : List Value), g = C.toks.length - i' ∧ i' < C.toks.length ∧ C.toks.length - i' < m ∧ l.length ≤ i' ∧ L1 < wr.heap.size ∧ Hid (At C w wr i' d) ∧ Hid (wr.heap[Z]? = some (.cells #[.int .i64 0, .string ⟨#[]⟩, .int .i64 0, .int .i64 0, .int .i64 0, .string ⟨#[]⟩, .slice none 0 0, .slice none 0 0] 28)) ∧
      Hid (wr.heap[L1]? = some (.cells #[.int .i64 20, .string ⟨#[]⟩, .int .i64 0, .int .i64 t.kind, .int .i64 t.num, .string ⟨t.name.toArray⟩, .slice sa sn sc, .slice va vn vc] 28)) ∧ Hid (GrowN wr (L1 + 1) (.slice va vn vc) l cells) ∧ Hid (loopP (recordStep R) ((C.toks.drop i1).length + 1) [] (C.toks.drop i1) = loopP (recordStep R) m l (C.toks.drop i')))
    case atStart => exact ⟨i1, (C.toks.drop i1).length + 1, [], none, 0, 0, [], rfl, hi1, by simp, by simp, hL1, HA1.out, B1.out, N1.out, GrowN.nil _ _, rfl⟩
    case round =>
      obtain ⟨i', m, l, va, vn, vc, cells, rfl, hi', hm, hll, hLz, hat, hb0, hb1, hG, hE⟩ := hrel
      obtain ⟨m, rfl⟩ : ∃ k, m = k + 1 := ⟨m - 1, by omega⟩
      clear HA1 B1 N1
      cases hs : isP [125] (C.toks.drop i') with
      | true =>
        have hst : recordStep R l (C.toks.drop i') = .ok (.inr l) (C.toks.drop (i' + 1)) := by unfold recordStep; rw [if_pos hs, tl_at]
        have HE := Lib.hid (hE.out.trans (loop_stop hst))
        have HY := Lib.hid (fun w' (h' : Pr C w' i' d) => skip_yes C w' i' d h' [125] (by simp) hs)
        clear hs hst
        go_wp2_with fail
        refine (HY.out _ hat.out.pr).mono ?_
        rintro e w2 ⟨rfl, hg, hp2⟩
        have HA2 := Lib.hid (hat.out.turn hg hp2)
        have Z2 := Lib.hid (blk_call hb0.out hg (by simp; omega))
        have B2 := Lib.hid (blk_call hb1.out hg (by simp; omega))
        have hz2 := hg.size
        have HK := Lib.hid (hG.out.call hg (by omega))
        have HW2 := Lib.hid (fun w' (h' : Pr C w' (i' + 1) d) => want_any C w' (i' + 1) d h' [59] (by simp))
        generalize hR5 : wantP [59] (C.toks.drop (i' + 1)) = R5 at *
        have HE5 := Lib.hid hR5
        clear hg hp2 hR5
        go_wp2_with fail
        refine (HW2.out _ HA2.out.pr).mono ?_
        rcases R5 with ⟨u5, r5⟩ | ⟨p, er⟩
        rotate_left
        · rintro e w3 ⟨hg, i3, d3, rfl, hdd, hp3⟩
          exact ⟨rfl, (HA2.out.turn hg hp3).errOut (by rw [PR.bind_ok, HE.out, PR.bind_ok, HE5.out]; rfl)⟩
        rintro e w3 ⟨hg, v3, i3, rfl, hv3, hp3, rfl⟩
        have hv' : v3 = .tuple #[] := hv3
        subst hv'
        have hz3 := hg.size
        have HA3 := Lib.hid (HA2.out.turn hg hp3)
        have Z3 := Lib.hid (blk_call Z2.out hg (by simp; omega))
        have B3 := Lib.hid (blk_call B2.out hg (by simp; omega))
        have HK3 := Lib.hid (HK.out.call hg (by omega))
        have HR3 := Lib.hid (HR.out.far HA3.out.gr HbB.out)
        obtain ⟨⟨r0, r1, r2, r3, r4, r5, r6, r7⟩, e0, e1, e2, e3, e4, e5, e6, e7⟩ := cells8_of w3 Z _ _ _ _ _ _ _ _ _ Z3.out
        obtain ⟨⟨q0, q1, q2, q3, q4, q5, q6, q7⟩, _⟩ := cells8_of w3 L1 _ _ _ _ _ _ _ _ _ B3.out
        have z1 : Z < w3.heap.size := by omega
        have z2 : L1 < w3.heap.size := by omega
        clear hg hp3 hv3
        go_wp2_with fail
        have N9 := blk_put8 Z3.out (.int .i64 20) (.string ⟨#[]⟩) (.int .i64 0) (.int .i64 t.kind) (.int .i64 t.num) (.string ⟨t.name.toArray⟩) (.slice sa sn sc) (.slice va vn vc)
        have K9 := keepsOn8 (S := fun g => g < w.heap.size ∨ L1 + 1 ≤ g) w3 (b := Z) (by omega) (.int .i64 20) (.string ⟨#[]⟩) (.int .i64 0) (.int .i64 t.kind) (.int .i64 t.num) (.string ⟨t.name.toArray⟩) (.slice sa sn sc) (.slice va vn vc)
        have A9 := At.set8 (b := Z) HA3.out (by omega) (.int .i64 20) (.string ⟨#[]⟩) (.int .i64 0) (.int .i64 t.kind) (.int .i64 t.num) (.string ⟨t.name.toArray⟩) (.slice sa sn sc) (.slice va vn vc)
        obtain ⟨⟨s0, s1, s2, s3, s4, s5, s6, s7⟩, _⟩ := cells8_of _ _ _ _ _ _ _ _ _ _ _ N9
        have HT9 := HR3.out.mono (w' := _) (S' := Su (Sx B X) w.heap.size) (fun g hs _ => .inl hs.1) (fun g hs hg => K9.2 g (.inl hs.2) hg)
        have HK9 := HK3.out.done.mono (w' := _) (S' := Su (Sx B X) w.heap.size) (fun g hs _ => .inr (by omega)) (fun g hs hg => K9.2 g (.inr hs) hg)
        refine bodyPost_ret (v := ndV (.mk 20 [] 0 t l) (.slice sa sn sc) (.slice va vn vc)) (by simp [results, Tryz.results53, go_sem, s0, s1, s2, s3, s4, s5, s6, s7]; rfl) rfl ?_
        exact A9.okOut (by rw [PR.bind_ok, HE.out, PR.bind_ok, HE5.out]; rfl) ⟨_, _, rfl, HT9, HK9⟩ rfl
      | false =>
        have hst : recordStep R l (C.toks.drop i') = (declP R (C.toks.drop i')).bind fun n r => (wantP [59] r).bind fun _ r1 => .ok (.inl (l ++ [n])) r1 := by unfold recordStep; rw [if_neg (by rw [hs]; simp)]
        have HST := Lib.hid hst
        have HN := Lib.hid (fun w' (h' : Pr C w' i' d) => skip_no C w' i' d h' [125] hs)
        have HRd := Lib.hid (fun w h => HX.out w i' h)
        have HS2 := Lib.hid (fun a r (e : declP R (C.toks.drop i') = .ok a r) => (HSh.out (C.toks.drop i') a r e).2 (drop_ne hi'))
        obtain ⟨i0, hi, hz0, hz1', hz2'⟩ := info_parts infoNd
        clear hs hst
        go_wp2_with fail
        refine (HN.out _ hat.out.pr).mono ?_
        rintro e w2 ⟨rfl, hg⟩
        have HA2 := Lib.hid (hat.out.call hg)
        have Z2 := Lib.hid (blk_call hb0.out hg (by simp))
        have B2 := Lib.hid (blk_call hb1.out hg (by simp))
        have HG2 := Lib.hid (hG.out.call0 hg)
        obtain ⟨⟨q0, q1, q2, q3, q4, q5, q6, q7⟩, _⟩ := cells8_of w2 L1 _ _ _ _ _ _ _ _ _ B2.out
        have hz2 := hg.size
        have z2 : L1 < w2.heap.size := by omega
        have hown := Lib.hid (fun k hk => (HG2.out.lt k hk).2)
        have hmax : l.length + 1 ≤ maxLen := by unfold maxLen; omega
        have hbytes : (l.length + 1) * 112 ≤ 140737488355328 := by omega
        clear hg hat hb0 hb1 hG HN
        generalize declP R (C.toks.drop i') = R0 at *
        go_wp2_with fail
        go_region_law (first
          | (refine step_append_lies _ rfl (.tmp 14) (.tmp 17) 26 rfl (L1 + 1) 28 i0 _ 8 112 Tryz.underlying26 hi hz0 hz1' hz2' rfl (by decide) _ l.length cells rfl (HF.out.2.2.2.2.1.call0 (gr_alloc (grownBy_refl _ _) _)).1 ⟨wc.heap.size, 0, none⟩ 1 1 (ndC a (.slice da dn dc) (.slice ka kn kc)) rfl rfl (cells_at _ _ _ _) (ndC_ones _ _ _ _ _ _ _) (by omega) hmax hbytes (by simp; omega) (wc.heap.size + 1) (by simp) ?_; intro gg cap w4 hown' hgrow hat' hlt'; have HG4 := Lib.hid (And.intro (GrowN.push (HF.out.2.2.2.2.1.call0 (gr_alloc (grownBy_refl _ _) _)) (HF.out.2.2.2.2.2.1.grow (gr_alloc (grownBy_refl _ _) _)) (HF.out.2.2.2.2.2.2.grow (gr_alloc (grownBy_refl _ _) _)) hown' hgrow hat' (by simp)) (And.intro ((HF.out.1.alloc _).app hgrow (fun k hk => by have := (HF.out.2.2.2.2.1.lt k hk).1; omega)) (And.intro (blk_call (blk_alloc HF.out.2.2.1 _) hgrow (HF.out.2.2.2.2.1.far (by omega))) (blk_call (blk_alloc HF.out.2.2.2.1 _) hgrow (HF.out.2.2.2.2.1.far (by omega)))))); obtain ⟨_, e0, e1, e2, e3, e4, e5, e6, e7⟩ := cells8_of w4 L1 _ _ _ _ _ _ _ _ _ HG4.out.2.2.1; have hz4 := hgrow.size; simp at hz4; have z4 : L1 < w4.heap.size := (by omega); clear hown' hgrow hat' hlt')
          | (go_simp; go_at_call 71; refine (HRd.out _ HA2.out.drew.pr).mono ?_; rcases R0 with ⟨a, r⟩ | ⟨p, er⟩; rotate_left; (rintro e wc ⟨hg, i2, d2, rfl, hdd, hp1⟩; exact ⟨rfl, (HA2.out.drew.turn hg hp1).errOut (by rw [PR.bind_ok, hE.out, loop_err (HST.out.trans rfl)]; rfl)⟩); rintro e wc ⟨hg, v1, i2, rfl, ⟨ofm, km, rfl, hof, hkm⟩, hp1, hd1⟩; obtain ⟨da, dn, dc, rfl⟩ := hof.isSlice; obtain ⟨ka, kn, kc, rfl⟩ := hkm.isSlice; have hz8 := hg.size; simp at hz8; have HF := Lib.hid (And.intro (HA2.out.drew.turn hg hp1) (And.intro hd1 (And.intro (blk_call B2.out (undrew hg) (by simp; omega)) (And.intro (blk_call Z2.out (undrew hg) (by simp; omega)) (And.intro (HG2.out.call (undrew hg) (by omega)) (And.intro (GrowT.fresh hof (B := L1 + 1) (v := .slice va vn vc) (by simp; omega) (by simpa using hown.out)) (GrowN.freshK hkm (B := L1 + 1) (v := .slice va vn vc) (by simp; omega) (by simpa using hown.out)))))))); obtain ⟨⟨p0, p1, p2, p3, p4, p5, p6, p7⟩, _⟩ := cells8_of wc L1 _ _ _ _ _ _ _ _ _ HF.out.2.2.1; have hz9 : L1 < wc.heap.size := (by omega); clear hg hp1 hof hkm; unfold ndV))
        all_goals
          go_wp2_with fail
          have hd8 := HF.out.2.1
          have hs8 := HS2.out a r rfl
          rw [← hd8] at hs8
          have hi2 : i2 < C.toks.length := HF.out.1.pr.lt
          simp at hs8
          have HA5 := Lib.hid (HG4.out.2.1.set (p := ⟨L1, 7, none⟩) (by simp; omega) (.slice (some ⟨gg, 0, none⟩) (l.length + 1) cap))
          have Z5 := Lib.hid (blk_set HG4.out.2.2.2 (p := ⟨L1, 7, none⟩) hwL' (.slice (some ⟨gg, 0, none⟩) (l.length + 1) cap))
          have B5 := Lib.hid (blk_put7 HG4.out.2.2.1 (.slice (some ⟨gg, 0, none⟩) (l.length + 1) cap))
          have HG5 := Lib.hid (GrowN.set HG4.out.1 (p := ⟨L1, 7, none⟩) (by simp) (.slice (some ⟨gg, 0, none⟩) (l.length + 1) cap))
          have hz5 : L1 < (w4.setCell ⟨L1, 7, none⟩ (.slice (some ⟨gg, 0, none⟩) (l.length + 1) cap)).heap.size := by simp [World.setCell]; omega
          have HW2 := Lib.hid (fun w' (h' : Pr C w' i2 d) => want_any C w' i2 d h' [59] (by simp))
          have HSw := Lib.hid (fun a r (e : wantP [59] (C.toks.drop i2) = .ok a r) => (Shr.want [59] (C.toks.drop i2) a r e).1)
          generalize hR5 : wantP [59] (C.toks.drop i2) = R5 at *
          have HE5 := Lib.hid hR5
          clear hR5
          refine (HW2.out _ HA5.out.pr).mono ?_
          rcases R5 with ⟨u5, r5⟩ | ⟨p, er⟩
          rotate_left
          · rintro e w6 ⟨hg, i3, d3, rfl, hdd, hp3⟩
            exact ⟨rfl, (HA5.out.turn hg hp3).errOut (by rw [PR.bind_ok, hE.out, loop_err (HST.out.trans (by rw [PR.bind_ok, ← hd8, HE5.out]; rfl))]; rfl)⟩
          rintro e w6 ⟨hg, v3, i3, rfl, hv3, hp3, hd3⟩
          have hv' : v3 = .tuple #[] := hv3
          subst hv'
          have hz6 := hg.size
          have h9 := HSw.out _ _ rfl
          rw [← hd3] at h9
          have hi3 := hp3.lt
          simp at h9
          have HA6 := Lib.hid (HA5.out.turn hg hp3)
          have Z6 := Lib.hid (blk_call Z5.out hg (by simp; omega))
          have B6 := Lib.hid (blk_call B5.out hg (by simp; omega))
          have HG6 := Lib.hid (HG5.out.call hg (by omega))
          have HD3 := Lib.hid hd3
          clear hg hp3 hv3
          go_wp2_with fail
          go_roundg (C.toks.length - i3)
          case measure => omega
          case rel =>
            exact ⟨i3, m, l ++ [a], some ⟨gg, 0, none⟩, l.length + 1, cap, cells ++ ndC a (.slice da dn dc) (.slice ka kn kc), rfl, hi3, by omega, by simp; omega, by omega, HA6.out, Z6.out, B6.out, HG6.out,
              hE.out.trans ((loop_more (HST.out.trans (by rw [PR.bind_ok, ← hd8, HE5.out]; rfl))).trans (by rw [HD3.out]))⟩
  · rintro e w1 ⟨hg, i1, d1, rfl, hdd, hp1⟩
    exact ⟨rfl, (HA0.out.turn hg hp1).errOut rfl⟩

end Go.Proofs.YtkbplcfehllbjaaGreatDoor
