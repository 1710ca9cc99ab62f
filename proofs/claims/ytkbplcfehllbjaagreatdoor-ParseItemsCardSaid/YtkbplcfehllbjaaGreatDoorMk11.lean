/- Merged: B2, Q31, Q32, Q33, Q35. -/
import Derived.Test.YtkbplcfehllbjaaGreatDoorMk10
import Derived.Maps.AppendAt
/- arrays. -/
namespace Go.Proofs.YtkbplcfehllbjaaGreatDoor
open Go.RowKit
open Go.Shelf
attribute [local go_sem] Oper.semAt_some
def foldA (pre : List (Nat × Int)) (t : Ty) : Ty := pre.foldl (fun t p => Ty.arr p.2 t) t
theorem foldA_snoc (pre : List (Nat × Int)) (x : Nat × Int) (t : Ty) : foldA (pre ++ [x]) t = Ty.arr x.2 (foldA pre t) := by simp [foldA]
theorem foldA_upto (zs : List Int) (t : Ty) : ∀ k, k ≤ zs.length → foldA (upto (backOf zs) k) t = arraysT (zs.drop (zs.length - k)) t
  | 0, _ => by simp [upto, foldA, arraysT]
  | k + 1, h => by
    rw [upto_succ, foldA_snoc, foldA_upto zs t k (by omega), backOf_at zs (m := zs.length - 1 - k) (by omega)]
    have hl : zs.length - (k + 1) < zs.length := by omega
    rw [show zs.length - k = zs.length - (k + 1) + 1 by omega, List.drop_eq_getElem_cons hl, show zs.length - 1 - k = zs.length - (k + 1) by omega, List.getElem?_eq_getElem hl]
    rfl
theorem foldA_all (zs : List Int) (t : Ty) : foldA (upto (backOf zs) zs.length) t = arraysT zs t := by
  rw [foldA_upto zs t _ (Nat.le_refl _), Nat.sub_self]; rfl
/-- w' has w's rows of cells. -/
def CellsKept (w w' : World) : Prop := ∀ (g : Nat) (c : Array Value) (t : TypeId) (fr : Nat × Nat), w.heap[g]? = some (.cells c t fr) → w'.heap[g]? = some (.cells c t fr)
theorem ownsRow_own {w w' : World} {base e size n : Nat} {v : Value} {xs : List Value} (h : w.ownsRow base e size v n xs) (hk : CellsKept w w') : w'.ownsRow base e size v n xs := by
  refine ⟨h.1, ?_⟩
  rcases h.2 with hn | ⟨g, cap, cur, hv, hg, hh, r⟩
  · exact .inl hn
  · exact .inr ⟨g, cap, cur, hv, hg, hk _ _ _ _ hh, r⟩
mutual
theorem RepT.own {w w' : World} {S : Nat → Prop} (hk : CellsKept w w') : ∀ (t : Ty) (cs : List Value), RepT w S t cs → RepT w' S t cs
  | .mk _ _ _ of, _, ⟨v, hc, cells, ho, hb, hl⟩ => ⟨v, hc, cells, ownsRow_own ho hk, hb, RepTl.own hk of cells hl⟩
theorem RepTl.own {w w' : World} {S : Nat → Prop} (hk : CellsKept w w') : ∀ (l : List Ty) (cs : List Value), RepTl w S l cs → RepTl w' S l cs
  | [], _, h => h
  | t :: l, _, ⟨c1, c2, hc, h1, h2⟩ => ⟨c1, c2, hc, RepT.own hk t c1 h1, RepTl.own hk l c2 h2⟩
end
theorem RepOf.own {w w' : World} {S : Nat → Prop} {v : Value} {l : List Ty} (h : RepOf w S v l) (hk : CellsKept w w') : RepOf w' S v l := by
  obtain ⟨cells, ho, hb, hl⟩ := h
  exact ⟨cells, ownsRow_own ho hk, hb, RepTl.own hk l cells hl⟩
theorem cellsKept_of {w w' : World} {row : Option Nat} (hg : w.grownBy w' row) (hr : ∀ r, row = some r → ∃ o : Obj, w.heap[r]? = some o ∧ o.isCells = false) : CellsKept w w' := by
  intro g c t fr h
  rw [hg.block g (lt_of_heap h) (fun e => by
    obtain ⟨o, ho, hc⟩ := hr g e.symm
    rw [h] at ho; cases ho; cases hc)]
  exact h
/-- t lies in the box at B, and a row of cells at B2. -/
def BoxA (S : Nat → Prop) (B : Nat) (u : Ty) (W : World) : Prop := (∃ sa sn sc, W.heap[B]? = some (.cells #[.int .i64 u.kind, .int .i64 u.num, .string ⟨u.name.toArray⟩, .slice sa sn sc] 25) ∧ RepOf W S (.slice sa sn sc) u.of) ∧ W.heap[B + 1]? = some (.cells #[.int .i64 0, .int .i64 0, .string ⟨#[]⟩, .slice none 0 0] 25)
theorem BoxA.own {S : Nat → Prop} {B : Nat} {u : Ty} {W W' : World} (h : BoxA S B u W) (hk : CellsKept W W') : BoxA S B u W' := by
  obtain ⟨⟨sa, sn, sc, hb, hr⟩, hz⟩ := h
  exact ⟨⟨sa, sn, sc, hk _ _ _ _ hb, hr.own hk⟩, hk _ _ _ _ hz⟩
theorem gr_of_below {a b : World} (h : Below a.heap.size a b) : a.grownBy b none := ⟨h.os, h.tape, h.output, h.size, fun k hk _ => h.block k hk⟩
theorem KeepsOn.setCell {S : Nat → Prop} {A : World} {p : Addr} (h : ¬ S p.block) (v : Value) : KeepsOn S A (A.setCell p v) :=
  ⟨by simp [World.setCell], fun g hs _ => Below.heap_setCell _ _ _ _ (fun e => h (e ▸ hs))⟩
theorem KeepsOn.alloc (S : Nat → Prop) (A : World) (o : Obj) : KeepsOn S A (A.alloc o) := ⟨by simp, fun g _ hg => Below.heap_alloc _ _ _ hg⟩
theorem put4 {w : World} {b t : Nat} {u0 u1 u2 u3 : Value} (h : w.heap[b]? = some (.cells #[u0, u1, u2, u3] t (0, 0))) (v0 v1 v2 v3 : Value) : ((((w.setCell ⟨b, 0, none⟩ v0).setCell ⟨b, 1, none⟩ v1).setCell ⟨b, 2, none⟩ v2).setCell ⟨b, 3, none⟩ v3).heap[b]? = some (.cells #[v0, v1, v2, v3] t (0, 0)) := by
  simp [World.setCell, Array.getElem?_modify, h]
theorem others4 (w : World) (b : Nat) (v0 v1 v2 v3 : Value) : KeepsOthers w ((((w.setCell ⟨b, 0, none⟩ v0).setCell ⟨b, 1, none⟩ v1).setCell ⟨b, 2, none⟩ v2).setCell ⟨b, 3, none⟩ v3) :=
  (((KeepsOthers.setCell _ _ _).trans (KeepsOthers.setCell _ _ _)).trans (KeepsOthers.setCell _ _ _)).trans (KeepsOthers.setCell _ _ _)
theorem keepsOn4 {S : Nat → Prop} (w : World) {b : Nat} (h : ¬ S b) (v0 v1 v2 v3 : Value) : KeepsOn S w ((((w.setCell ⟨b, 0, none⟩ v0).setCell ⟨b, 1, none⟩ v1).setCell ⟨b, 2, none⟩ v2).setCell ⟨b, 3, none⟩ v3) :=
  (((KeepsOn.setCell (p := ⟨b, 0, none⟩) h _).trans (KeepsOn.setCell (p := ⟨b, 1, none⟩) h _)).trans (KeepsOn.setCell (p := ⟨b, 2, none⟩) h _)).trans (KeepsOn.setCell (p := ⟨b, 3, none⟩) h _)
theorem below4 {B b : Nat} {w W : World} (h : Below B w W) (hb : B ≤ b) (v0 v1 v2 v3 : Value) : Below B w ((((W.setCell ⟨b, 0, none⟩ v0).setCell ⟨b, 1, none⟩ v1).setCell ⟨b, 2, none⟩ v2).setCell ⟨b, 3, none⟩ v3) :=
  (((h.setCell (p := ⟨b, 0, none⟩) hb _).setCell (p := ⟨b, 1, none⟩) hb _).setCell (p := ⟨b, 2, none⟩) hb _).setCell (p := ⟨b, 3, none⟩) hb _
theorem RepOf.on {S : Nat → Prop} {a b : World} {v : Value} {l : List Ty} (h : RepOf a S v l) (k : KeepsOn S a b) : RepOf b S v l := h.mono (fun _ hs _ => hs) k.2
theorem new4 (w : World) (b : Nat) (v0 v1 v2 v3 : Value) (o : Obj) : (((((w.setCell ⟨b, 0, none⟩ v0).setCell ⟨b, 1, none⟩ v1).setCell ⟨b, 2, none⟩ v2).setCell ⟨b, 3, none⟩ v3).alloc o).heap[w.heap.size]? = some o := by
  have h := blk_new ((((w.setCell ⟨b, 0, none⟩ v0).setCell ⟨b, 1, none⟩ v1).setCell ⟨b, 2, none⟩ v2).setCell ⟨b, 3, none⟩ v3) o
  simpa [World.setCell] using h
theorem arr_step {w W : World} {S : Nat → Prop} {u : Ty} {ba : Option Addr} {bn bc : Nat} (x2 : Int) (hS : ∀ g, S g → g < w.heap.size) (hb : W.heap[w.heap.size]? = some (.cells #[.int .i64 u.kind, .int .i64 u.num, .string ⟨u.name.toArray⟩, .slice ba bn bc] 25)) (hr : RepOf W (Su S (w.heap.size + 3)) (.slice ba bn bc) u.of)
    (hz : W.heap[w.heap.size + 1]? = some (.cells #[.int .i64 0, .int .i64 0, .string ⟨#[]⟩, .slice none 0 0] 25)) (h3 : w.heap.size + 3 ≤ W.heap.size) (hB : Below w.heap.size w W) (W4 W' : World)
    (h4 : W4 = ((((W.setCell ⟨w.heap.size, 0, none⟩ (.int .i64 6)).setCell ⟨w.heap.size, 1, none⟩ (.int .i64 x2)).setCell ⟨w.heap.size, 2, none⟩ (.string ⟨#[]⟩)).setCell ⟨w.heap.size, 3, none⟩ (.slice (some ⟨W.heap.size, 0, none⟩) 1 1)))
    (h5 : W' = W4.alloc (.cells #[.int .i64 u.kind, .int .i64 u.num, .string ⟨u.name.toArray⟩, .slice ba bn bc] 25)) :
    KeepsOthers W W' ∧ KeepsOn (fun g => g < w.heap.size ∨ g = w.heap.size + 2) W W' ∧ (BoxA (Su S (w.heap.size + 3)) w.heap.size (Ty.arr x2 u) W' ∧ w.heap.size + 3 ≤ W'.heap.size) ∧ Below w.heap.size w W' := by
  have hn : ¬ Su S (w.heap.size + 3) w.heap.size := fun e => e.elim (fun e => by have := hS _ e; omega) (fun e => by omega)
  have hn2 : ¬ (w.heap.size < w.heap.size ∨ w.heap.size = w.heap.size + 2) := by omega
  have hn3 : ¬ w.heap.size = w.heap.size + 1 := by omega
  have o4 := others4 W w.heap.size (.int .i64 6) (.int .i64 x2) (.string ⟨#[]⟩) (.slice (some ⟨W.heap.size, 0, none⟩) 1 1)
  have k1 := keepsOn4 (S := Su S (w.heap.size + 3)) W hn (.int .i64 6) (.int .i64 x2) (.string ⟨#[]⟩) (.slice (some ⟨W.heap.size, 0, none⟩) 1 1)
  have k2 := keepsOn4 (S := fun g => g < w.heap.size ∨ g = w.heap.size + 2) W hn2 (.int .i64 6) (.int .i64 x2) (.string ⟨#[]⟩) (.slice (some ⟨W.heap.size, 0, none⟩) 1 1)
  have k3 := keepsOn4 (S := fun g => g = w.heap.size + 1) W hn3 (.int .i64 6) (.int .i64 x2) (.string ⟨#[]⟩) (.slice (some ⟨W.heap.size, 0, none⟩) 1 1)
  have p4 := put4 hb (.int .i64 6) (.int .i64 x2) (.string ⟨#[]⟩) (.slice (some ⟨W.heap.size, 0, none⟩) 1 1)
  have b4 := below4 (b := w.heap.size) hB (Nat.le_refl _) (.int .i64 6) (.int .i64 x2) (.string ⟨#[]⟩) (.slice (some ⟨W.heap.size, 0, none⟩) 1 1)
  have s4 : W4.heap.size = W.heap.size := by rw [h4]; simp [World.setCell]
  rw [← h4] at o4 k1 k2 k3 p4 b4
  clear h4
  subst h5
  have hz4 : W4.heap[w.heap.size + 1]? = some (.cells #[.int .i64 0, .int .i64 0, .string ⟨#[]⟩, .slice none 0 0] 25) := (k3.2 _ rfl (lt_of_heap hz)).trans hz
  have hnew := blk_new W4 (.cells #[.int .i64 u.kind, .int .i64 u.num, .string ⟨u.name.toArray⟩, .slice ba bn bc] 25)
  rw [s4] at hnew
  refine ⟨o4.trans (KeepsOthers.alloc _ _), k2.trans (KeepsOn.alloc _ _ _), ⟨⟨⟨some ⟨W.heap.size, 0, none⟩, 1, 1, blk_alloc p4 _, ?_⟩, blk_alloc hz4 _⟩, ?_⟩, b4.alloc (by omega) _⟩
  · exact RepOf.one ((hr.on k1).on (KeepsOn.alloc _ _ _)) hnew (.inr h3)
  · rw [World.size_alloc]; omega
set_option maxRecDepth 100000 in
set_option maxHeartbeats 4000000 in
theorem arrays_any (zs : List Int) (sv : Value) (t : Ty) (ofv : Value) (S : Nat → Prop) (w : World) (hl : zs.length ≤ 100000) (hI : IntsAt (fun g => g < w.heap.size) w sv zs) (h : RepOf w S ofv t.of) (hS : ∀ g, S g → g < w.heap.size) :
    Calls Tryz.prog 78 #[sv, tyV t ofv] w fun e w' => w.grownBy w' none ∧ ∃ v, e = .returned (tyV (arraysT zs t) v) ∧ RepOf w' (Su S w.heap.size) v (arraysT zs t).of := by
  have hsv : ∃ a n c, sv = .slice a n c := by
    rcases hI with ⟨rfl, _⟩ | ⟨b, cap, rfl, _⟩
    · exact ⟨_, _, _, rfl⟩
    · exact ⟨_, _, _, rfl⟩
  obtain ⟨a, len, cap, rfl⟩ := hsv
  obtain ⟨sa, sn, sc, rfl⟩ := h.isSlice
  unfold tyV
  have hro : Fence.wide.round = none := rfl
  refine (callsIn_wide (n := 5)).1 ?_
  refine callsIn_of_wp_marks Tryz.func78 rfl trivial ?_ hro
  simp only [Tryz.ntmps78, List.size_toArray, List.length_cons, List.length_nil, Nat.reduceAdd, Nat.reduceSub, Array.replicate_succ, Array.replicate_zero, List.push_toArray, List.append_toArray, List.nil_append, List.cons_append]
  gi_wp2_with (refine ⟨trivial, ?_⟩; gi_at_call 90; refine (backward_in Fence.wide _ trivial rfl _ _ _ _).mono ?_; rintro e w' ⟨rfl, rfl⟩)
  have hb0 := blk_alloc (blk_alloc (blk_new w (.cells #[.int .i64 t.kind, .int .i64 t.num, .string ⟨t.name.toArray⟩, .slice sa sn sc] 25)) (.cells #[.int .i64 0, .int .i64 0, .string ⟨#[]⟩, .slice none 0 0] 25)) (.cells #[.slice a len cap] 45)
  have hz0 : (((w.alloc (.cells #[.int .i64 t.kind, .int .i64 t.num, .string ⟨t.name.toArray⟩, .slice sa sn sc] 25)).alloc (.cells #[.int .i64 0, .int .i64 0, .string ⟨#[]⟩, .slice none 0 0] 25)).alloc (.cells #[.slice a len cap] 45)).heap[w.heap.size + 1]? = some (.cells #[.int .i64 0, .int .i64 0, .string ⟨#[]⟩, .slice none 0 0] 25) := by
    have h1 := blk_alloc (blk_new (w.alloc (.cells #[.int .i64 t.kind, .int .i64 t.num, .string ⟨t.name.toArray⟩, .slice sa sn sc] 25)) (.cells #[.int .i64 0, .int .i64 0, .string ⟨#[]⟩, .slice none 0 0] 25)) (.cells #[.slice a len cap] 45)
    simpa using h1
  have hs0 : (((w.alloc (.cells #[.int .i64 t.kind, .int .i64 t.num, .string ⟨t.name.toArray⟩, .slice sa sn sc] 25)).alloc (.cells #[.int .i64 0, .int .i64 0, .string ⟨#[]⟩, .slice none 0 0] 25)).alloc (.cells #[.slice a len cap] 45)).cell? ⟨w.heap.size + 2, 0, none⟩ = some (.slice a len cap) := by
    have h1 := blk_new ((w.alloc (.cells #[.int .i64 t.kind, .int .i64 t.num, .string ⟨t.name.toArray⟩, .slice sa sn sc] 25)).alloc (.cells #[.int .i64 0, .int .i64 0, .string ⟨#[]⟩, .slice none 0 0] 25)) (.cells #[.slice a len cap] 45)
    have h2 := cell_of_row _ _ 0 _ _ _ h1
    simpa using h2
  have hB0 : Below w.heap.size w (((w.alloc (.cells #[.int .i64 t.kind, .int .i64 t.num, .string ⟨t.name.toArray⟩, .slice sa sn sc] 25)).alloc (.cells #[.int .i64 0, .int .i64 0, .string ⟨#[]⟩, .slice none 0 0] 25)).alloc (.cells #[.slice a len cap] 45)) := (((Below.refl _ w).alloc (Nat.le_refl _) _).alloc (by simp) _).alloc (by simp; omega) _
  have hsz : (((w.alloc (.cells #[.int .i64 t.kind, .int .i64 t.num, .string ⟨t.name.toArray⟩, .slice sa sn sc] 25)).alloc (.cells #[.int .i64 0, .int .i64 0, .string ⟨#[]⟩, .slice none 0 0] 25)).alloc (.cells #[.slice a len cap] 45)).heap.size = w.heap.size + 3 := by simp
  rw [show w.heap.size + 1 + 1 = w.heap.size + 2 from rfl]
  generalize (((w.alloc (.cells #[.int .i64 t.kind, .int .i64 t.num, .string ⟨t.name.toArray⟩, .slice sa sn sc] 25)).alloc (.cells #[.int .i64 0, .int .i64 0, .string ⟨#[]⟩, .slice none 0 0] 25)).alloc (.cells #[.slice a len cap] 45)) = W0 at *
  have hRW : RepOf W0 (Su S (w.heap.size + 3)) (.slice sa sn sc) t.of := h.mono (fun g hs _ => .inl hs) (fun g _ hg => hB0.block g hg)
  have hIW : IntsAt (fun g => g < w.heap.size ∨ g = w.heap.size + 2) W0 (.slice a len cap) zs := by
    rcases hI with ⟨e1, e2⟩ | ⟨b, cap', e1, hb, hc⟩
    · exact .inl ⟨e1, e2⟩
    · exact .inr ⟨b, cap', e1, .inl hb, fun j hj => (World.cell?_of_block (hB0.block b hb)).trans (hc j hj)⟩
  refine wpIn_rangeFunc_ownG hro (by omega) (gf := 101) (lb := #[.pointer (some ⟨w.heap.size + 2, 0, none⟩)]) rfl trivial (enters_of Tryz.func101 (by kernel_rfl) rfl)
    (backward_stops Fence.wide 4 trivial rfl (by omega) (w.heap.size + 2) (fun g => g < w.heap.size ∨ g = w.heap.size + 2) _ zs (by omega) W0 (.inr rfl) hs0 hIW) KeepsOn.trans
    (fun W l o o' hl' _ _ _ => KeepsOn.putObj (fun e => by rcases e with e | e <;> omega) o') (Below.refl _ _) (fun _ => rfl)
    (fun pre W => (BoxA (Su S (w.heap.size + 3)) w.heap.size (foldA pre t) W ∧ w.heap.size + 3 ≤ W.heap.size) ∧ Below w.heap.size w W)
    (fun _ _ _ => False)
    (OwnFrom.and (Own.from (fun s A B row hs hg hr => ⟨hs.1.own (cellsKept_of hg hr), Nat.le_trans hs.2 hg.size⟩) _) (ownFrom_below (Nat.le_refl _) (by omega)))
    (fun _ _ _ _ _ hs _ _ => hs)
    ⟨⟨⟨⟨sa, sn, sc, hb0, hRW⟩, hz0⟩, by omega⟩, hB0⟩
    (fun x => { tmps := #[.slice a len cap, .agg #[.int .i64 t.kind, .int .i64 t.num, .string ⟨t.name.toArray⟩, .slice sa sn sc], undef, .pointer (some ⟨w.heap.size, 0, none⟩), .pointer (some ⟨w.heap.size + 1, 0, none⟩), undef, .int .i64 x.2, .slice a len cap, .func (.func 101) #[] #[.pointer (some ⟨w.heap.size + 2, 0, none⟩)], .int .i64 (x.1 : Int), .int .i64 x.2, undef, undef, undef, undef, undef], defers := [] }) ?assign ?body ?done ?stop
  case assign =>
    intro l x W K hK
    gi_wp2
    exact hK
  case body =>
    rintro l pre x W ⟨⟨⟨⟨ba, bn, bc, hb, hr⟩, hz⟩, h3⟩, hB⟩ _
    obtain ⟨c0, c1, c2, c3, f0, f1, f2, f3⟩ := cells4_of _ _ _ _ _ _ _ hb
    have hlt := lt_of_heap hb
    gi_wp2
    obtain ⟨r1, r2, r3, r4⟩ := arr_step x.2 hS hb hr hz h3 hB _ _ rfl rfl
    rw [← foldA_snoc] at r3
    exact ⟨r1.from _, r2, r3, r4⟩
  case done =>
    rintro D ys W hD rfl ⟨⟨⟨⟨ba, bn, bc, hb, hr⟩, hz⟩, _⟩, hB⟩ hK
    obtain ⟨c0, c1, c2, c3, f0, f1, f2, f3⟩ := cells4_of _ _ _ _ _ _ _ hb
    obtain ⟨d0, d1, d2, d3, e0, e1, e2, e3⟩ := cells4_of _ _ _ _ _ _ _ hz
    rw [foldA_all] at hb hr c0 c1 c2
    obtain ⟨u, hu⟩ : ∃ u, u = arraysT zs t := ⟨_, rfl⟩
    rw [← hu] at hb hr c0 c1 c2
    have HU := Lib.hid hu
    clear hu
    gi_wp2
    have hn : ¬ Su S (w.heap.size + 3) (w.heap.size + 1) := fun e => e.elim (fun e => by have := hS _ e; omega) (fun e => by omega)
    have hK' := (others4 W (w.heap.size + 1) (.int .i64 u.kind) (.int .i64 u.num) (.string ⟨u.name.toArray⟩) (.slice ba bn bc)).same D _ hK rfl
    have hr' := hr.on (keepsOn4 W hn (.int .i64 u.kind) (.int .i64 u.num) (.string ⟨u.name.toArray⟩) (.slice ba bn bc))
    have hz' := put4 hz (.int .i64 u.kind) (.int .i64 u.num) (.string ⟨u.name.toArray⟩) (.slice ba bn bc)
    have hB' := below4 (b := w.heap.size + 1) hB (by omega) (.int .i64 u.kind) (.int .i64 u.num) (.string ⟨u.name.toArray⟩) (.slice ba bn bc)
    generalize ((((W.setCell ⟨w.heap.size + 1, 0, none⟩ (.int .i64 u.kind)).setCell ⟨w.heap.size + 1, 1, none⟩ (.int .i64 u.num)).setCell ⟨w.heap.size + 1, 2, none⟩ (.string ⟨u.name.toArray⟩)).setCell ⟨w.heap.size + 1, 3, none⟩ (.slice ba bn bc)) = W4 at *
    have hkk : CellsKept W4 (W4.putObj D (.deferred none)) := cellsKept_of (grownBy_putObj' W4 D (.deferred none)) (fun r e => by cases e; exact ⟨_, hK', rfl⟩)
    refine ⟨by simp, .inl ⟨_, _, rfl, run_takeDeferred hK', ?_⟩⟩
    obtain ⟨q0, q1, q2, q3, _⟩ := cells4_of _ _ _ _ _ _ _ (hkk _ _ _ _ hz')
    have hgr := gr_of_below (hB'.trans (belowK_b (w := w) (Nat.le_refl _) W4 D _ (.deferred none) (by omega) hK' rfl rfl))
    have hre := (hr'.own hkk).mono (S' := Su S w.heap.size) (fun g hs _ => hs.imp id (fun h => by omega)) (fun _ _ _ => rfl)
    refine ⟨.agg #[.int .i64 u.kind, .int .i64 u.num, .string ⟨u.name.toArray⟩, .slice ba bn bc], by simp [results, Tryz.results78, go_sem, q0, q1, q2, q3], ?_⟩
    have hu := HU.out
    subst hu
    exact ⟨hgr, _, rfl, hre⟩
  case stop =>
    rintro D c pre W _ _ h _
    exact h.elim

end Go.Proofs.YtkbplcfehllbjaaGreatDoor
/- declared: without brackets. -/
namespace Go.Proofs.YtkbplcfehllbjaaGreatDoor
open Go.RowKit
attribute [local go_sem ↓] Go.wp_at_zero Go.wp_at_succ
/-- A declaration's node: no kids; its type in S's blocks, or in new ones. -/
def declPost (S : Nat → Prop) (n : Nat) (u : Nd) (w' : World) (v : Value) : Prop := ∃ ofv, v = ndV u ofv (.slice none 0 0) ∧ RepOf w' (Su S n) ofv u.typ.of ∧ u.kids = []
theorem blk_new2 (W : World) (o o' : Obj) : ((W.alloc o).alloc o').heap[W.heap.size + 1]? = some o' := by
  have h := blk_new (W.alloc o) o'
  simpa using h
theorem sizes_len : ∀ (n : Nat) (ts : List T4), ts.length ≤ n → ∀ l r, sizesP ts = .ok l r → l.length ≤ ts.length := by
  intro n
  induction n with
  | zero => intro ts h l r e; have := List.eq_nil_of_length_eq_zero (by omega : ts.length = 0); subst this; cases e; simp
  | succ n ih =>
    intro ts h l r e
    match ts, h, e with
    | [], _, e => cases e; simp
    | [a], _, e => cases e; simp
    | a :: b :: r0, h, e =>
      unfold sizesP at e
      split at e
      · split at e
        · cases e
        · split at e
          · match r0, h, e with
            | [], _, e => cases e
            | c :: r', h, e =>
              dsimp only at e
              split at e
              · cases hs : sizesP r' with
                | err x y => simp [hs] at e
                | ok l' r'' =>
                  simp [hs] at e
                  have := ih r' (by simp at h; omega) l' r'' hs
                  obtain ⟨rfl, _⟩ := e
                  simp; omega
              · cases e
          · cases e
      · cases e; simp
theorem ints_of_row {B : Nat} {l : List Int} {w' : World} {v : Value} (h : szVal B l w' v) : IntsAt (fun g => g < w'.heap.size) w' v l := by
  have h' : w'.ownsRow B 3 1 v l.length (intsV l) := h
  rcases h'.2 with ⟨rfl, h0⟩ | ⟨g, cap, cur, rfl, _, hh, _, _, _, ht⟩
  · exact .inl ⟨rfl, List.eq_nil_of_length_eq_zero h0⟩
  · refine .inr ⟨g, cap, rfl, lt_of_heap hh, fun j hj => ?_⟩
    have h1 := World.news_of_block hh j (.int .i64 (l[j]?.getD 0)) (by
      have h2 : (cur.toList.take (l.length * 1))[j]? = some (.int .i64 (l[j]?.getD 0)) := by
        rw [ht]; unfold intsV; rw [List.getElem?_map, List.getElem?_eq_getElem hj]; rfl
      rw [List.getElem?_take] at h2
      split at h2
      · exact h2
      · cases h2)
    have hadd : (⟨g, 0, none⟩ : Addr).add j = ⟨g, j, none⟩ := by unfold Addr.add; split <;> simp_all
    rwa [hadd] at h1
theorem ints_isSlice {S : Nat → Prop} {w : World} {v : Value} {l : List Int} (h : IntsAt S w v l) : ∃ a n c, v = .slice a n c := by
  rcases h with ⟨rfl, _⟩ | ⟨b, cap, rfl, _⟩
  · exact ⟨_, _, _, rfl⟩
  · exact ⟨_, _, _, rfl⟩
/-- S's blocks that w has. -/
def Sw (S : Nat → Prop) (w : World) : Nat → Prop := fun g => S g ∧ g < w.heap.size
theorem RepOf.sw {S : Nat → Prop} {w : World} {v : Value} {l : List Ty} (h : RepOf w S v l) : RepOf w (Sw S w) v l := h.mono (fun _ hs hl => ⟨hs, hl⟩) (fun _ _ _ => rfl)
theorem RepOf.far {B bp : Nat} {X : List Nat} {w W : World} {v : Value} {l : List Ty} (h : RepOf w (Sw (Sx B X) w) v l) (g : w.grownBy W (some bp)) (hb : bp < B) : RepOf W (Sw (Sx B X) w) v l :=
  h.mono (fun _ hs _ => hs) (fun k hs hk => g.block k hk (by have := hs.1.1; simp; omega))
theorem keepsOn8 {S : Nat → Prop} (w : World) {b : Nat} (h : ¬ S b) (v0 v1 v2 v3 v4 v5 v6 v7 : Value) : KeepsOn S w ((((((((w.setCell ⟨b, 0, none⟩ v0).setCell ⟨b, 1, none⟩ v1).setCell ⟨b, 2, none⟩ v2).setCell ⟨b, 3, none⟩ v3).setCell ⟨b, 4, none⟩ v4).setCell ⟨b, 5, none⟩ v5).setCell ⟨b, 6, none⟩ v6).setCell ⟨b, 7, none⟩ v7) :=
  (((((((KeepsOn.setCell (p := ⟨b, 0, none⟩) h _).trans (KeepsOn.setCell (p := ⟨b, 1, none⟩) h _)).trans (KeepsOn.setCell (p := ⟨b, 2, none⟩) h _)).trans (KeepsOn.setCell (p := ⟨b, 3, none⟩) h _)).trans (KeepsOn.setCell (p := ⟨b, 4, none⟩) h _)).trans (KeepsOn.setCell (p := ⟨b, 5, none⟩) h _)).trans (KeepsOn.setCell (p := ⟨b, 6, none⟩) h _)).trans (KeepsOn.setCell (p := ⟨b, 7, none⟩) h _)
set_option maxRecDepth 100000 in
set_option maxHeartbeats 4000000 in
theorem declared_plain (C : Ctx) (d : Nat) (k : Int) (t : Ty) (ofv : Value) (B : Nat) (X : List Nat) (hbB : C.bp < B) (w : World) (i : Nat) (h : Pr C w i d) (hr : RepOf w (Sx B X) ofv t.of) (hs : isP [40] (C.toks.drop i) = false) :
    Calls Tryz.prog 57 #[C.p, .int .i64 k, tyV t ofv] w (Out C w d ((nameP (C.toks.drop i)).bind fun nm r1 => (sizesP r1).bind fun sz r2 => .ok (.mk k nm 0 (arraysT sz t) []) r2) (declPost (Sx B X) w.heap.size)) := by
  obtain ⟨sa, sn, sc, rfl⟩ := hr.isSlice
  have HP := Lib.hid h.at
  have hbp := lt_of_heap h.blk
  have hlen := h.len
  have hp : C.p = .pointer (some ⟨C.bp, 0, none⟩) := rfl
  have HN := Lib.hid (fun w' (h' : Pr C w' i d) => skip_no C w' i d h' [40] hs)
  have HNm := Lib.hid (fun w' (h' : Pr C w' i d) => name_any C w' i d h')
  have HR := Lib.hid hr.sw
  have HbB := Lib.hid hbB
  generalize hR1 : nameP (C.toks.drop i) = R1 at *
  clear h hr hs
  unfold tyV
  go_enter Tryz.func57, Tryz.ntmps57
  go_wp2_with fail
  have HA0 := Lib.hid ((HP.out.alloc (.cells #[.int .i64 t.kind, .int .i64 t.num, .string ⟨t.name.toArray⟩, .slice sa sn sc] 25 (0, 0))).alloc (.cells #[.int .i64 0, .string ⟨#[]⟩, .int .i64 0, .int .i64 0, .int .i64 0, .string ⟨#[]⟩, .slice none 0 0, .slice none 0 0] 28))
  have B0 := Lib.hid (blk_alloc (blk_new w (.cells #[.int .i64 t.kind, .int .i64 t.num, .string ⟨t.name.toArray⟩, .slice sa sn sc] 25 (0, 0))) (.cells #[.int .i64 0, .string ⟨#[]⟩, .int .i64 0, .int .i64 0, .int .i64 0, .string ⟨#[]⟩, .slice none 0 0, .slice none 0 0] 28))
  have N0 := Lib.hid (blk_new2 w (.cells #[.int .i64 t.kind, .int .i64 t.num, .string ⟨t.name.toArray⟩, .slice sa sn sc] 25 (0, 0)) (.cells #[.int .i64 0, .string ⟨#[]⟩, .int .i64 0, .int .i64 0, .int .i64 0, .string ⟨#[]⟩, .slice none 0 0, .slice none 0 0] 28))
  refine (HN.out _ HA0.out.pr).mono ?_
  rintro e w1 ⟨rfl, hg⟩
  have hz1 := hg.size
  simp at hz1
  have HA1 := Lib.hid (HA0.out.call hg)
  have B1 := Lib.hid (blk_call B0.out hg (by simp))
  have N1 := Lib.hid (blk_call N0.out hg (by simp))
  clear hg HP HA0 B0 N0
  go_wp2_with fail
  refine (HNm.out _ HA1.out.pr).mono ?_
  cases R1 with
  | err p er =>
    rintro e w2 ⟨hg, i1, d1, rfl, hdd, hp1⟩
    exact ⟨rfl, (HA1.out.turn hg hp1).errOut rfl⟩
  | ok nm r =>
    rintro e w2 ⟨hg, v1, i1, rfl, hv, hp1, rfl⟩
    have hv' : v1 = .string ⟨nm.toArray⟩ := hv
    subst hv'
    have hz2 := hg.size
    have HA2 := Lib.hid (HA1.out.turn hg hp1)
    have B2 := Lib.hid (blk_call B1.out hg (by simp; omega))
    have N2 := Lib.hid (blk_call N1.out hg (by simp; omega))
    have HSz := Lib.hid (fun w' (h' : Pr C w' i1 d) => sizes_any C w' i1 d h')
    have HLn := Lib.hid (fun l r (e : sizesP (C.toks.drop i1) = .ok l r) => sizes_len _ _ (Nat.le_refl _) l r e)
    have HLt := Lib.hid (show (C.toks.drop i1).length ≤ 20001 from by rw [List.length_drop]; omega)
    generalize hR2 : sizesP (C.toks.drop i1) = R2 at *
    have HE := Lib.hid hR2
    have hw2 : w.heap.size + 1 < w2.heap.size := by omega
    have hw2' : w.heap.size < w2.heap.size := by omega
    clear hg hp1 hv HA1 B1 N1 hR1 hR2
    obtain ⟨q0, q1, q2, q3, _⟩ := cells4_of w2 w.heap.size _ _ _ _ _ B2.out
    go_wp2_with fail
    go_region_law (first
      | (go_simp; go_at_call 78; refine (arrays_any sz _ t (.slice sa sn sc) (Sw (Sx B X) w) _ hll2 HI.out HR3.out (fun g hs => by have := hs.2; omega)).mono ?_; rintro e wd ⟨hgd, v5, rfl, hrd⟩; obtain ⟨fa, fn, fc, rfl⟩ := RepOf.isSlice hrd; have HRd := Lib.hid hrd; have HA4 := Lib.hid (HA3.out.call hgd); have N4 := Lib.hid (blk_call N3.out hgd (by simp)); obtain ⟨⟨r0, r1, r2, r3, r4, r5, r6, r7⟩, e0, e1, e2, e3, e4, e5, e6, e7⟩ := cells8_of wd (w.heap.size + 1) _ _ _ _ _ _ _ _ _ N4.out; have hz6 := hgd.size; have hz7 : w.heap.size + 1 < wd.heap.size := (by omega); clear hgd hrd; unfold tyV)
      | (go_simp; go_at_call 79; refine (HSz.out _ HA2.out.drew.pr).mono ?_; rcases R2 with ⟨sz, r2⟩ | ⟨p, er⟩; rotate_left; (rintro e wc ⟨hg, i2, d2, rfl, hdd, hp1⟩; exact ⟨rfl, (HA2.out.drew.turn hg hp1).errOut (by rw [PR.bind_ok, HE.out]; rfl)⟩); rintro e wc ⟨hg, v1, i2, rfl, hsv, hp1, hd1⟩; have HI := Lib.hid (ints_of_row hsv); obtain ⟨za, zn, zc, rfl⟩ := ints_isSlice HI.out; have hz3 := hg.size; simp at hz3; have HA3 := Lib.hid (HA2.out.drew.turn hg hp1); have HD := Lib.hid hd1; have N3 := Lib.hid (blk_call N2.out (undrew hg) (by simp; omega)); have HR3 := Lib.hid (HR.out.far HA3.out.gr HbB.out); have hll := HLn.out sz r2 rfl; have hll2 : sz.length ≤ 100000 := (by have := HLt.out; omega); obtain ⟨p0, p1, p2, p3, _⟩ := cells4_of wc w.heap.size _ _ _ _ _ (blk_call B2.out (undrew hg) (by simp; omega)); have hz4 : w.heap.size + 1 < wc.heap.size := (by omega); have hz5 : w.heap.size < wc.heap.size := (by omega); clear hg hp1 hsv hd1 hll; try clear q0 q1 q2 q3))
    all_goals
      go_wp2_with fail
      have N9 := blk_put8 N4.out (.int .i64 k) (.string ⟨nm.toArray⟩) (.int .i64 0) (.int .i64 (arraysT sz t).kind) (.int .i64 (arraysT sz t).num) (.string ⟨(arraysT sz t).name.toArray⟩) (.slice fa fn fc) (.slice none 0 0)
      have K9 := keepsOn8 (S := Su (Sw (Sx B X) w) wc.heap.size) wd (b := w.heap.size + 1) (by intro e; rcases e with e | e; have := e.2; omega; omega) (.int .i64 k) (.string ⟨nm.toArray⟩) (.int .i64 0) (.int .i64 (arraysT sz t).kind) (.int .i64 (arraysT sz t).num) (.string ⟨(arraysT sz t).name.toArray⟩) (.slice fa fn fc) (.slice none 0 0)
      have A9 := At.set8 (b := w.heap.size + 1) HA4.out (by omega) (.int .i64 k) (.string ⟨nm.toArray⟩) (.int .i64 0) (.int .i64 (arraysT sz t).kind) (.int .i64 (arraysT sz t).num) (.string ⟨(arraysT sz t).name.toArray⟩) (.slice fa fn fc) (.slice none 0 0)
      obtain ⟨⟨s0, s1, s2, s3, s4, s5, s6, s7⟩, _⟩ := cells8_of _ _ _ _ _ _ _ _ _ _ _ N9
      refine bodyPost_ret (v := ndV (.mk k nm 0 (arraysT sz t) []) (.slice fa fn fc) (.slice none 0 0)) (by simp [results, Tryz.results57, go_sem, s0, s1, s2, s3, s4, s5, s6, s7]; rfl) rfl ?_
      exact A9.okOut (by rw [PR.bind_ok, HE.out]; rfl) ⟨_, rfl, (HRd.out.on K9).mono (fun g hs _ => hs.imp (fun h => h.1) (fun h => by omega)) (fun _ _ _ => rfl), rfl⟩ HD.out

end Go.Proofs.YtkbplcfehllbjaaGreatDoor
/- declared: with brackets; declared. -/
namespace Go.Proofs.YtkbplcfehllbjaaGreatDoor
open Go.RowKit
attribute [local go_sem ↓] Go.wp_at_zero Go.wp_at_succ
set_option maxRecDepth 100000 in
set_option maxHeartbeats 4000000 in
theorem declared_paren (C : Ctx) (d : Nat) (R : Rec) (L : Lev C d R) (k : Int) (t : Ty) (ofv : Value) (B : Nat) (X : List Nat) (hbB : C.bp < B) (w : World) (i : Nat) (h : Pr C w i d) (hB : B ≤ w.heap.size) (hX : ∀ x ∈ X, x < w.heap.size) (hr : RepOf w (Sx B X) ofv t.of) (hs : isP [40] (C.toks.drop i) = true) :
    Calls Tryz.prog 57 #[C.p, .int .i64 k, tyV t ofv] w (Out C w d ((wantP [42] (C.toks.drop (i + 1))).bind fun _ r1 => (nameP r1).bind fun nm r2 => (sizesP r2).bind fun sz r3 => (wantP [41] r3).bind fun _ r4 =>
      (pointerToP R t r4).bind fun u r5 => .ok (.mk k nm 0 (arraysT sz u) []) r5) (declPost (Sx B X) w.heap.size)) := by
  obtain ⟨sa, sn, sc, rfl⟩ := hr.isSlice
  have HP := Lib.hid h.at
  have hbp := lt_of_heap h.blk
  have hlen := h.len
  have hp : C.p = .pointer (some ⟨C.bp, 0, none⟩) := rfl
  have HY := Lib.hid (fun w' (h' : Pr C w' i d) => skip_yes C w' i d h' [40] (by simp) hs)
  have HW := Lib.hid (fun w' (h' : Pr C w' (i + 1) d) => want_any C w' (i + 1) d h' [42] (by simp))
  have HR := Lib.hid hr.sw
  have HbB := Lib.hid hbB
  have HL := Lib.hid L
  have HX := Lib.hid hX
  generalize hR1 : wantP [42] (C.toks.drop (i + 1)) = R1 at *
  clear h hr hs L hX
  unfold tyV
  go_enter Tryz.func57, Tryz.ntmps57
  go_wp2_with fail
  have HA0 := Lib.hid ((HP.out.alloc (.cells #[.int .i64 t.kind, .int .i64 t.num, .string ⟨t.name.toArray⟩, .slice sa sn sc] 25 (0, 0))).alloc (.cells #[.int .i64 0, .string ⟨#[]⟩, .int .i64 0, .int .i64 0, .int .i64 0, .string ⟨#[]⟩, .slice none 0 0, .slice none 0 0] 28))
  have B0 := Lib.hid (blk_alloc (blk_new w (.cells #[.int .i64 t.kind, .int .i64 t.num, .string ⟨t.name.toArray⟩, .slice sa sn sc] 25 (0, 0))) (.cells #[.int .i64 0, .string ⟨#[]⟩, .int .i64 0, .int .i64 0, .int .i64 0, .string ⟨#[]⟩, .slice none 0 0, .slice none 0 0] 28))
  have N0 := Lib.hid (blk_new2 w (.cells #[.int .i64 t.kind, .int .i64 t.num, .string ⟨t.name.toArray⟩, .slice sa sn sc] 25 (0, 0)) (.cells #[.int .i64 0, .string ⟨#[]⟩, .int .i64 0, .int .i64 0, .int .i64 0, .string ⟨#[]⟩, .slice none 0 0, .slice none 0 0] 28))
  refine (HY.out _ HA0.out.pr).mono ?_
  rintro e w1 ⟨rfl, hg, hp1⟩
  have hz := hg.size
  simp at hz
  have HA := Lib.hid (HA0.out.turn hg hp1)
  have BB := Lib.hid (blk_call B0.out hg (by simp; omega))
  have NN := Lib.hid (blk_call N0.out hg (by simp; omega))
  clear hg hp1 HP HA0 B0 N0
  go_wp2_with fail
  refine (HW.out _ HA.out.pr).mono ?_
  cases R1 with
  | err p er =>
    rintro e w2 ⟨hg, i1, d1, rfl, hdd, hp1⟩
    exact ⟨rfl, (HA.out.turn hg hp1).errOut rfl⟩
  | ok u0 r =>
    rintro e w2 ⟨hg, v1, i1, rfl, hv, hp1, rfl⟩
    have hv' : v1 = .tuple #[] := hv
    subst hv'
    have hz2 := hg.size
    have HA := Lib.hid (HA.out.turn hg hp1)
    have BB := Lib.hid (blk_call BB.out hg (by simp; omega))
    have NN := Lib.hid (blk_call NN.out hg (by simp; omega))
    have HNm := Lib.hid (fun w' (h' : Pr C w' i1 d) => name_any C w' i1 d h')
    generalize hR2 : nameP (C.toks.drop i1) = R2 at *
    have HE2 := Lib.hid hR2
    clear hg hp1 hv hR1 hR2
    go_wp2_with fail
    refine (HNm.out _ HA.out.pr).mono ?_
    cases R2 with
    | err p er =>
      rintro e w3 ⟨hg, i2, d2, rfl, hdd, hp1⟩
      exact ⟨rfl, (HA.out.turn hg hp1).errOut (by rw [PR.bind_ok, HE2.out]; rfl)⟩
    | ok nm r =>
      rintro e w3 ⟨hg, v2, i2, rfl, hv, hp1, rfl⟩
      have hv' : v2 = .string ⟨nm.toArray⟩ := hv
      subst hv'
      have hz3 := hg.size
      have HA := Lib.hid (HA.out.turn hg hp1)
      have BB := Lib.hid (blk_call BB.out hg (by simp; omega))
      have NN := Lib.hid (blk_call NN.out hg (by simp; omega))
      have HSz := Lib.hid (fun w' (h' : Pr C w' i2 d) => sizes_any C w' i2 d h')
      have HLn := Lib.hid (fun l r (e : sizesP (C.toks.drop i2) = .ok l r) => sizes_len _ _ (Nat.le_refl _) l r e)
      have HLt := Lib.hid (show (C.toks.drop i2).length ≤ 20001 from by rw [List.length_drop]; omega)
      generalize hR3 : sizesP (C.toks.drop i2) = R3 at *
      have HE3 := Lib.hid hR3
      clear hg hp1 hv hR3
      go_wp2_with fail
      refine (HSz.out _ HA.out.pr).mono ?_
      cases R3 with
      | err p er =>
        rintro e w4 ⟨hg, i3, d3, rfl, hdd, hp1⟩
        exact ⟨rfl, (HA.out.turn hg hp1).errOut (by rw [PR.bind_ok, HE2.out, PR.bind_ok, HE3.out]; rfl)⟩
      | ok sz r =>
        rintro e w4 ⟨hg, v3, i3, rfl, hsv, hp1, rfl⟩
        obtain ⟨za, zn, zc, rfl⟩ := ints_isSlice (ints_of_row hsv)
        have hz4 := hg.size
        have HA := Lib.hid (HA.out.turn hg hp1)
        have BB := Lib.hid (blk_call BB.out hg (by simp; omega))
        have NN := Lib.hid (blk_call NN.out hg (by simp; omega))
        have HO := Lib.hid hsv
        have hll2 : sz.length ≤ 100000 := by have h1 := HLn.out sz _ rfl; have h2 := HLt.out; omega
        have HW2 := Lib.hid (fun w' (h' : Pr C w' i3 d) => want_any C w' i3 d h' [41] (by simp))
        generalize hR4 : wantP [41] (C.toks.drop i3) = R4 at *
        have HE4 := Lib.hid hR4
        clear hg hp1 hsv hR4
        go_wp2_with fail
        refine (HW2.out _ HA.out.pr).mono ?_
        cases R4 with
        | err p er =>
          rintro e w5 ⟨hg, i4, d4, rfl, hdd, hp1⟩
          exact ⟨rfl, (HA.out.turn hg hp1).errOut (by rw [PR.bind_ok, HE2.out, PR.bind_ok, HE3.out, PR.bind_ok, HE4.out]; rfl)⟩
        | ok u4 r =>
          rintro e w5 ⟨hg, v4, i4, rfl, hv, hp1, rfl⟩
          have hv' : v4 = .tuple #[] := hv
          subst hv'
          have hz5 := hg.size
          have HA := Lib.hid (HA.out.turn hg hp1)
          have BB := Lib.hid (blk_call BB.out hg (by simp; omega))
          have NN := Lib.hid (blk_call NN.out hg (by simp; omega))
          have HO := Lib.hid (show szVal w3.heap.size sz w5 _ from ownsRow_call HO.out hg (by omega))
          have HR5 := Lib.hid ((HR.out.far HA.out.gr HbB.out).mono (S' := Sx B (w.heap.size :: (w.heap.size + 1) :: X)) (fun g hs _ => ⟨hs.1.1, by have := hs.2; simp; exact ⟨by omega, by omega, hs.1.2⟩⟩) (fun _ _ _ => rfl))
          have HPt := Lib.hid (fun h' => pointerTo_any C d R HL.out t (.slice sa sn sc) B (w.heap.size :: (w.heap.size + 1) :: X) HbB.out w5 i4 h' (by omega) (by intro x hx; simp at hx; rcases hx with rfl | rfl | hx; omega; omega; have := HX.out x hx; omega) HR5.out)
          generalize hR5 : pointerToP R t (C.toks.drop i4) = R5 at *
          have HE5 := Lib.hid hR5
          obtain ⟨q0, q1, q2, q3, _⟩ := cells4_of w5 w.heap.size _ _ _ _ _ BB.out
          clear hg hp1 hv hR5
          unfold tyV at *
          go_wp2_with fail
          refine (HPt.out HA.out.pr).mono ?_
          cases R5 with
          | err p er =>
            rintro e w6 ⟨hg, i5, d5, rfl, hdd, hp1⟩
            exact ⟨rfl, (HA.out.turn hg hp1).errOut (by rw [PR.bind_ok, HE2.out, PR.bind_ok, HE3.out, PR.bind_ok, HE4.out, PR.bind_ok, HE5.out]; rfl)⟩
          | ok u r =>
            rintro e wc ⟨hg, v5, i5, rfl, hv, hp1, rfl⟩
            obtain ⟨ofu, rfl, hru⟩ := hv
            obtain ⟨ua, un, uc, rfl⟩ := hru.isSlice
            have hz6 := hg.size
            have HA := Lib.hid (HA.out.turn hg hp1)
            have NN := Lib.hid (blk_call NN.out hg (by simp; omega))
            have HO := Lib.hid (show szVal w3.heap.size sz wc _ from ownsRow_call HO.out hg (by omega))
            have HRu := Lib.hid hru.sw
            clear hg hp1 hru q0 q1 q2 q3 BB
            unfold tyV
            go_wp2_with fail
            refine (arrays_any sz _ u (.slice ua un uc) (Sw (Su (Sx B (w.heap.size :: (w.heap.size + 1) :: X)) w5.heap.size) wc) wc hll2 (ints_of_row HO.out) HRu.out (fun g hs => hs.2)).mono ?_
            rintro e wd ⟨hgd, v6, rfl, hrd⟩
            obtain ⟨fa, fn, fc, rfl⟩ := RepOf.isSlice hrd
            have HRd := Lib.hid hrd
            have HA := Lib.hid (HA.out.call hgd)
            have NN := Lib.hid (blk_call NN.out hgd (by simp))
            obtain ⟨⟨r0, r1, r2, r3, r4, r5, r6, r7⟩, e0, e1, e2, e3, e4, e5, e6, e7⟩ := cells8_of wd (w.heap.size + 1) _ _ _ _ _ _ _ _ _ NN.out
            have hz7 := hgd.size
            have hz8 : w.heap.size + 1 < wd.heap.size := by omega
            clear hgd hrd
            unfold tyV
            go_wp2_with fail
            have N9 := blk_put8 NN.out (.int .i64 k) (.string ⟨nm.toArray⟩) (.int .i64 0) (.int .i64 (arraysT sz u).kind) (.int .i64 (arraysT sz u).num) (.string ⟨(arraysT sz u).name.toArray⟩) (.slice fa fn fc) (.slice none 0 0)
            have K9 := keepsOn8 (S := Su (Sw (Su (Sx B (w.heap.size :: (w.heap.size + 1) :: X)) w5.heap.size) wc) wc.heap.size) wd (b := w.heap.size + 1) (by intro e; rcases e with ⟨e, _⟩ | e; rcases e with e | e; exact e.2 (by simp); omega; omega) (.int .i64 k) (.string ⟨nm.toArray⟩) (.int .i64 0) (.int .i64 (arraysT sz u).kind) (.int .i64 (arraysT sz u).num) (.string ⟨(arraysT sz u).name.toArray⟩) (.slice fa fn fc) (.slice none 0 0)
            have A9 := At.set8 (b := w.heap.size + 1) HA.out (by omega) (.int .i64 k) (.string ⟨nm.toArray⟩) (.int .i64 0) (.int .i64 (arraysT sz u).kind) (.int .i64 (arraysT sz u).num) (.string ⟨(arraysT sz u).name.toArray⟩) (.slice fa fn fc) (.slice none 0 0)
            obtain ⟨⟨s0, s1, s2, s3, s4, s5, s6, s7⟩, _⟩ := cells8_of _ _ _ _ _ _ _ _ _ _ _ N9
            refine bodyPost_ret (v := ndV (.mk k nm 0 (arraysT sz u) []) (.slice fa fn fc) (.slice none 0 0)) (by simp [results, Tryz.results57, go_sem, s0, s1, s2, s3, s4, s5, s6, s7]; rfl) rfl ?_
            exact A9.okOut (by rw [PR.bind_ok, HE2.out, PR.bind_ok, HE3.out, PR.bind_ok, HE4.out, PR.bind_ok, HE5.out]; rfl)
              ⟨_, rfl, (HRd.out.on K9).mono (fun g hs _ => by
                rcases hs with ⟨hs | hs, _⟩ | hs
                · exact .inl ⟨hs.1, fun hm => hs.2 (by simp [hm])⟩
                · exact .inr (by omega)
                · exact .inr (by omega)) (fun _ _ _ => rfl), rfl⟩ rfl

end Go.Proofs.YtkbplcfehllbjaaGreatDoor
/- decl. -/
namespace Go.Proofs.YtkbplcfehllbjaaGreatDoor
open Go.RowKit
attribute [local go_sem ↓] Go.wp_at_zero Go.wp_at_succ
theorem declared_any (C : Ctx) (d : Nat) (R : Rec) (L : Lev C d R) (k : Int) (t : Ty) (ofv : Value) (B : Nat) (X : List Nat) (hbB : C.bp < B) (w : World) (i : Nat) (h : Pr C w i d) (hB : B ≤ w.heap.size) (hX : ∀ x ∈ X, x < w.heap.size) (hr : RepOf w (Sx B X) ofv t.of) :
    Calls Tryz.prog 57 #[C.p, .int .i64 k, tyV t ofv] w (Out C w d (declaredP R k t (C.toks.drop i)) (declPost (Sx B X) w.heap.size)) := by
  cases hs : isP [40] (C.toks.drop i) with
  | true =>
    have e : declaredP R k t (C.toks.drop i) = (wantP [42] (C.toks.drop (i + 1))).bind fun _ r1 => (nameP r1).bind fun nm r2 => (sizesP r2).bind fun sz r3 => (wantP [41] r3).bind fun _ r4 => (pointerToP R t r4).bind fun u r5 => .ok (.mk k nm 0 (arraysT sz u) []) r5 := by
      unfold declaredP
      rw [if_pos hs, tl_at]
    rw [e]
    exact declared_paren C d R L k t ofv B X hbB w i h hB hX hr hs
  | false =>
    have e : declaredP R k t (C.toks.drop i) = (nameP (C.toks.drop i)).bind fun nm r1 => (sizesP r1).bind fun sz r2 => .ok (.mk k nm 0 (arraysT sz t) []) r2 := by
      unfold declaredP
      rw [if_neg (by simp [hs])]
    rw [e]
    exact declared_plain C d k t ofv B X hbB w i h hr hs
set_option maxRecDepth 100000 in
set_option maxHeartbeats 4000000 in
theorem decl_any (C : Ctx) (d : Nat) (R : Rec) (L : Lev C d R) : RunsN 71 C d (declP R) := by
  intro w i h
  have HP := Lib.hid h.at
  have hbp := lt_of_heap h.blk
  have hp : C.p = .pointer (some ⟨C.bp, 0, none⟩) := rfl
  have HB := Lib.hid (fun w' (h' : Pr C w' i d) => base_any C w' i d h')
  have HL := Lib.hid L
  unfold declP
  generalize hR1 : baseP (C.toks.drop i) = R1 at *
  clear h L
  go_enter Tryz.func71, Tryz.ntmps71
  go_wp2_with fail
  have HA0 := Lib.hid (HP.out.alloc (.cells #[.int .i64 0, .string ⟨#[]⟩, .int .i64 0, .int .i64 0, .int .i64 0, .string ⟨#[]⟩, .slice none 0 0, .slice none 0 0] 28))
  have N0 := Lib.hid (blk_new w (.cells #[.int .i64 0, .string ⟨#[]⟩, .int .i64 0, .int .i64 0, .int .i64 0, .string ⟨#[]⟩, .slice none 0 0, .slice none 0 0] 28))
  refine (HB.out _ HA0.out.pr).mono ?_
  cases R1 with
  | err p er =>
    rintro e w1 ⟨hg, i1, d1, rfl, hdd, hp1⟩
    exact ⟨rfl, (HA0.out.turn hg hp1).errOut rfl⟩
  | ok t r =>
    rintro e w1 ⟨hg, v1, i1, rfl, ⟨ofv, rfl, hof⟩, hp1, rfl⟩
    obtain ⟨sa, sn, sc, rfl⟩ := hof.isSlice
    have hz1 := hg.size
    simp at hz1
    have HA := Lib.hid (HA0.out.turn hg hp1)
    have NN := Lib.hid (blk_call N0.out hg (by simp; omega))
    have HR := Lib.hid (hof.mono (S' := Sx (w.heap.size + 1) []) (fun g hs _ => ⟨by simpa using hs, by simp⟩) (fun _ _ _ => rfl))
    clear hg hp1 hof hR1 HP HA0 N0
    unfold tyV
    go_wp2_with fail
    have HA := Lib.hid (HA.out.alloc (.cells #[.int .i64 t.kind, .int .i64 t.num, .string ⟨t.name.toArray⟩, .slice sa sn sc] 25 (0, 0)))
    have NN := Lib.hid (blk_alloc NN.out (.cells #[.int .i64 t.kind, .int .i64 t.num, .string ⟨t.name.toArray⟩, .slice sa sn sc] 25 (0, 0)))
    have HR := Lib.hid (HR.out.kept ((Kept.refl (Sx (w.heap.size + 1) []) w1).alloc (.cells #[.int .i64 t.kind, .int .i64 t.num, .string ⟨t.name.toArray⟩, .slice sa sn sc] 25 (0, 0))))
    refine (stars_any C (w.heap.size + 1) [] (by omega) t (.slice sa sn sc) _ i1 d HA.out.pr (by simp; omega) (by simp) HR.out).mono ?_
    rintro e w2 ⟨hg, v2, i2, rfl, hof, hp1, hd2⟩
    generalize hst : starsP (C.toks.drop i1) t = st at *
    obtain ⟨ba, bn, bc, rfl⟩ := hof.isSlice
    have hz2 := hg.size
    simp at hz2
    have HA := Lib.hid (HA.out.turn hg hp1)
    have NN := Lib.hid (blk_call NN.out hg (by simp; omega))
    have HR := Lib.hid (hof.join (by simp; omega) (by simp))
    have HD := Lib.hid hd2
    have HST := Lib.hid hst
    clear hg hp1 hof hst hd2
    unfold tyV
    go_wp2_with fail
    have HC := Lib.hid (declared_any C d R HL.out 13 st.1 (.slice ba bn bc) (w.heap.size + 1) [] (by omega) w2 i2 HA.out.pr (by omega) (by simp) HR.out)
    generalize hR3 : declaredP R 13 st.1 (C.toks.drop i2) = R3 at *
    have HE := Lib.hid hR3
    clear hR3
    unfold tyV at HC
    refine HC.out.mono ?_
    cases R3 with
    | err p er =>
      rintro e w3 ⟨hg, i3, d3, rfl, hdd, hp1⟩
      exact ⟨rfl, (HA.out.turn hg hp1).errOut (by rw [PR.bind_ok, HST.out, ← HD.out, HE.out])⟩
    | ok u r =>
      rintro e w3 ⟨hg, v3, i3, rfl, ⟨ofu, rfl, hof, hkd⟩, hp1, rfl⟩
      obtain ⟨fa, fn, fc, rfl⟩ := hof.isSlice
      have hz3 := hg.size
      have HA := Lib.hid (HA.out.turn hg hp1)
      have NN := Lib.hid (blk_call NN.out hg (by simp; omega))
      have HR := Lib.hid hof
      have HK := Lib.hid hkd
      obtain ⟨⟨r0, r1, r2, r3, r4, r5, r6, r7⟩, e0, e1, e2, e3, e4, e5, e6, e7⟩ := cells8_of w3 w.heap.size _ _ _ _ _ _ _ _ _ NN.out
      have hz8 : w.heap.size < w3.heap.size := by omega
      clear hg hp1 hof hkd
      unfold ndV
      go_wp2_with fail
      have N9 := blk_put8 NN.out (.int .i64 u.kind) (.string ⟨u.text.toArray⟩) (.int .i64 u.num) (.int .i64 u.typ.kind) (.int .i64 u.typ.num) (.string ⟨u.typ.name.toArray⟩) (.slice fa fn fc) (.slice none 0 0)
      have K9 := keepsOn8 (S := Su (Sx (w.heap.size + 1) []) w2.heap.size) w3 (b := w.heap.size) (by intro e; rcases e with e | e; have := e.1; omega; omega) (.int .i64 u.kind) (.string ⟨u.text.toArray⟩) (.int .i64 u.num) (.int .i64 u.typ.kind) (.int .i64 u.typ.num) (.string ⟨u.typ.name.toArray⟩) (.slice fa fn fc) (.slice none 0 0)
      have A9 := At.set8 (b := w.heap.size) HA.out (by omega) (.int .i64 u.kind) (.string ⟨u.text.toArray⟩) (.int .i64 u.num) (.int .i64 u.typ.kind) (.int .i64 u.typ.num) (.string ⟨u.typ.name.toArray⟩) (.slice fa fn fc) (.slice none 0 0)
      obtain ⟨⟨s0, s1, s2, s3, s4, s5, s6, s7⟩, _⟩ := cells8_of _ _ _ _ _ _ _ _ _ _ _ N9
      refine bodyPost_ret (v := ndV u (.slice fa fn fc) (.slice none 0 0)) (by simp [results, Tryz.results71, go_sem, s0, s1, s2, s3, s4, s5, s6, s7]; rfl) rfl ?_
      exact A9.okOut (by rw [PR.bind_ok, HST.out, ← HD.out, HE.out]) ⟨_, _, rfl, (HR.out.on K9).mono (fun g hs _ => by
        rcases hs with hs | hs
        · have := hs.1; omega
        · omega) (fun _ _ _ => rfl), by rw [HK.out]; exact RepK.nil _ _⟩ rfl

end Go.Proofs.YtkbplcfehllbjaaGreatDoor
/- slices.Clone over types. -/
namespace Go.Proofs.YtkbplcfehllbjaaGreatDoor
open Go.RowKit
theorem slice_nil (w : World) : (binOp .eql 23 (.slice none 0 0) (.slice none 0 0)).run Tryz.prog w = .ok (.bool true) w := by
  have h : ∀ d : Nat, (Op.equalIn (d + 1) 23 (.slice none 0 0) (.slice none 0 0)).run Tryz.prog w = .ok true w := fun d => by
    simp [Op.equalIn, run_underlying Tryz.underlying23]
  simp only [binOp]
  simp [Op.equal, Op.maxDepth, h 9999]
theorem slice_some (a : Addr) (n c : Nat) (w : World) : (binOp .eql 23 (.slice (some a) n c) (.slice none 0 0)).run Tryz.prog w = .ok (.bool false) w := by
  have h : ∀ d : Nat, (Op.equalIn (d + 1) 23 (.slice (some a) n c) (.slice none 0 0)).run Tryz.prog w = .ok false w := fun d => by
    simp [Op.equalIn, run_underlying Tryz.underlying23]
  simp only [binOp]
  simp [Op.equal, Op.maxDepth, h 9999]
theorem gr_own0 {a b c : World} {r : Option Nat} (h : a.grownBy b none) (g : b.grownBy c r) (hr : ∀ k, r = some k → a.heap.size ≤ k) : a.grownBy c none :=
  ⟨g.os.trans h.os, g.tape.trans h.tape, g.output.trans h.output, Nat.le_trans h.size g.size, fun k hk _ => (g.block k (Nat.lt_of_lt_of_le hk h.size) (fun e => by have := hr k e.symm; omega)).trans (h.block k hk (by simp))⟩
set_option maxRecDepth 100000 in
set_option maxHeartbeats 4000000 in
theorem sclone_any (v : Value) (n : Nat) (cells : List Value) (w : World) (h : w.ownsRow 0 25 4 v n cells) (h1 : ∀ u ∈ cells, u.oneCell' = true) (hn : n ≤ 100000) :
    Calls Tryz.prog 88 #[v] w fun e w' => ∃ v', e = .returned v' ∧ w'.ownsRow w.heap.size 25 4 v' n cells ∧ w.grownBy w' none := by
  rcases row_cells h with ⟨rfl, h0⟩ | ⟨g, cap, rfl, hc⟩
  · have hq := slice_nil
    go_enter Tryz.func88, Tryz.ntmps88
    go_wp2_with fail
    go_ret
    subst h0
    have hcl : cells = [] := List.eq_nil_of_length_eq_zero (by have := h.1; omega)
    exact ⟨_, rfl, by rw [hcl]; exact World.ownsRow_nil _ _ _ _, by repeat (first | with_reducible exact grownBy_refl _ _ | with_reducible assumption | with_reducible refine World.grownBy.gr_drew ?_ | with_reducible refine World.grownBy.gr_set ?_ (by simp) _ | with_reducible refine gr_alloc ?_ _)⟩
  · obtain ⟨i0, hi, hz0, hz1, hz2⟩ := info_parts infoTy
    have hlen := h.1
    have hcc := fun j u hu => (gr_alloc (grownBy_refl w none) (.cells #[] 25)).cell (hc j u hu) (by simp)
    have hq := slice_some
    go_enter Tryz.func88, Tryz.ntmps88
    go_wp2_with (at_builtin; go_must (refine wpList_append_own_at _ rfl (.tmp 5) (.tmp 6) 23 rfl w.heap.size 25 i0 _ 4 56 Tryz.underlying23 hi hz0 hz1 hz2 rfl (by decide) _ 0 [] rfl ⟨rfl, .inr ⟨w.heap.size, 0, _, rfl, Nat.le_refl _, blk_new _ _, Nat.le_refl _, Nat.zero_le _, rfl, rfl⟩⟩ ⟨g, 0, none⟩ n cap cells rfl hlen hcc h1 (by unfold maxLen; omega) (by omega) (by simp) ?_; intro v' w' ho' hg' hn' hb'))
    go_ret
    exact ⟨_, rfl, by simpa using ho', gr_own0 (gr_alloc (grownBy_refl w none) _) hg' (fun k hk => by have : w.heap.size = k := Option.some.inj hk; omega)⟩

end Go.Proofs.YtkbplcfehllbjaaGreatDoor
