/- layout: Size at a number's type, and at an array of one. -/
import Derived.Test.YtjfbkogjgjmndaaDoorNc
import Derived.Test.YtjfbkogjgjmndaaDoorB3
import Derived.RangeFuncOwn
import Derived.RangeFuncWrites
import Derived.RangeFuncFrom
import Derived.RangeFuncKeeps
import Derived.RangeFuncRecord
namespace Go.Proofs.YtjfbkogjgjmndaaDoor
open Go.RowKit
open Go.Shelf
attribute [local go_sem] Oper.semAt_some
theorem cells_own {W W' : World} {row : Option Nat} {g : Nat} {c : Array Value} {t : TypeId} {fr : Nat × Nat} (h : W.heap[g]? = some (.cells c t fr)) (hg : W.grownBy W' row) (hr : ∀ r, row = some r → ∃ o : Obj, W.heap[r]? = some o ∧ o.isCells = false) : W'.heap[g]? = some (.cells c t fr) := by
  rw [hg.block g (lt_of_heap h) (fun e => by
    obtain ⟨o, ho, hc⟩ := hr g e.symm
    rw [h] at ho; cases ho; cases hc)]
  exact h
theorem gr_of_below {a b : World} (h : Below a.heap.size a b) : a.grownBy b none := ⟨h.os, h.tape, h.output, h.size, fun k hk _ => h.block k hk⟩
theorem below_of_gr {a b : World} (h : a.grownBy b none) : Below a.heap.size a b := ⟨h.os, h.tape, h.output, h.size, fun k hk => h.block k hk (by simp)⟩
theorem KeepsOn.setCell {S : Nat → Prop} {A : World} {p : Addr} (h : ¬ S p.block) (v : Value) : KeepsOn S A (A.setCell p v) :=
  ⟨by simp [World.setCell], fun g hs _ => Below.heap_setCell _ _ _ _ (fun e => h (e ▸ hs))⟩
/-- The three boxes of the answer, and the size's. -/
structure SzB (W : World) (B D : Nat) (x1 x2 x3 s : Int) : Prop where
  b1 : W.heap[B + 1]? = some (.cells #[.int .i64 x1] 3 (0, 0))
  b2 : W.heap[B + 2]? = some (.cells #[.int .i64 x2] 3 (0, 0))
  b3 : W.heap[B + 3]? = some (.cells #[.int .i64 x3] 27 (0, 0))
  b4 : W.heap[D]? = some (.cells #[.int .i64 s] 3 (0, 0))
theorem cell1 {W : World} {b : Nat} {x : Value} {t : TypeId} (h : W.heap[b]? = some (.cells #[x] t (0, 0))) : W.cell? ⟨b, 0, none⟩ = some x ∧ W.frozen? ⟨b, 0, none⟩ = false := by
  constructor <;> simp [World.cell?, World.frozen?, h]
theorem set1 {W : World} {b : Nat} {x : Value} {t : TypeId} (h : W.heap[b]? = some (.cells #[x] t (0, 0))) (v : Value) : (W.setCell ⟨b, 0, none⟩ v).heap[b]? = some (.cells #[v] t (0, 0)) := by
  simp [World.setCell, Array.getElem?_modify, h]
theorem off1 {W : World} {b c : Nat} {o : Obj} (h : W.heap[b]? = some o) (hne : b ≠ c) (v : Value) : (W.setCell ⟨c, 0, none⟩ v).heap[b]? = some o := (Below.heap_setCell _ _ _ _ hne).trans h
theorem SzB.size {W : World} {B D : Nat} {x1 x2 x3 s : Int} (h : SzB W B D x1 x2 x3 s) (hD : B + 4 ≤ D) (s' : Int) : SzB (W.setCell ⟨D, 0, none⟩ (.int .i64 s')) B D x1 x2 x3 s' :=
  ⟨off1 h.b1 (by omega) _, off1 h.b2 (by omega) _, off1 h.b3 (by omega) _, set1 h.b4 _⟩
theorem SzB.three {W : World} {B D : Nat} {x1 x2 x3 s : Int} (h : SzB W B D x1 x2 x3 s) (hD : B + 4 ≤ D) (y1 y2 y3 : Int) : SzB (((W.setCell ⟨B + 1, 0, none⟩ (.int .i64 y1)).setCell ⟨B + 2, 0, none⟩ (.int .i64 y2)).setCell ⟨B + 3, 0, none⟩ (.int .i64 y3)) B D y1 y2 y3 s :=
  ⟨off1 (off1 (set1 h.b1 _) (by omega) _) (by omega) _, off1 (set1 (off1 h.b2 (by omega) _) _) (by omega) _, set1 (off1 (off1 h.b3 (by omega) _) (by omega) _) _, off1 (off1 (off1 h.b4 (by omega) _) (by omega) _) (by omega) _⟩
theorem quo_ok {n : Int} (hn : 1 ≤ n) : ∃ q, IntKind.i64.wrap (Int.tdiv 4096 n) = q ∧ ∀ s : Int, s ≤ q ↔ s * n ≤ 4096 := by
  have e : Int.tdiv 4096 n = 4096 / n := Int.tdiv_eq_ediv_of_nonneg (by omega)
  have h1 : 0 ≤ (4096 : Int) / n := Int.ediv_nonneg (by omega) (by omega)
  have h2 : (4096 : Int) / n ≤ 4096 := Int.ediv_le_self _ (by omega)
  refine ⟨4096 / n, ?_, fun s => Int.le_ediv_iff_mul_le (by omega)⟩
  rw [e, IntKind.wrap_i64]
  omega
/-- The product, from behind. -/
def foldP (sz : Int) (xs : List (Nat × Nat)) : Int := xs.foldl (fun s p => s * ((p.2 : Int) + 1)) sz
theorem foldP_snoc (sz : Int) (xs : List (Nat × Nat)) (x : Nat × Nat) : foldP sz (xs ++ [x]) = foldP sz xs * ((x.2 : Int) + 1) := by simp [foldP]
def prodN (zs : List Nat) : Nat := zs.foldr (fun z p => (z + 1) * p) 1
theorem prodN_pos (zs : List Nat) : 1 ≤ prodN zs := by
  induction zs with
  | nil => exact Nat.le_refl _
  | cons a l ih => show 1 ≤ (a + 1) * prodN l; exact Nat.mul_pos (by omega) ih
theorem foldP_upto (sz : Int) (zs : List Nat) : ∀ k, k ≤ zs.length → foldP sz (upto (backP zs) k) = sz * (prodN (zs.drop (zs.length - k)) : Nat)
  | 0, _ => by simp [upto, foldP, prodN]
  | k + 1, h => by
    rw [upto_succ, foldP_snoc, foldP_upto sz zs k (by omega), backP_at zs (m := zs.length - 1 - k) (by omega)]
    have hl : zs.length - (k + 1) < zs.length := by omega
    rw [show zs.length - k = zs.length - (k + 1) + 1 by omega, List.drop_eq_getElem_cons hl, show zs.length - 1 - k = zs.length - (k + 1) by omega, List.getElem?_eq_getElem hl]
    simp only [Option.getD_some]
    show sz * _ * _ = sz * ((((zs[zs.length - (k + 1)]) + 1) * prodN _ : Nat) : Int)
    rw [Int.natCast_mul, Int.mul_assoc, Int.mul_comm (prodN _ : Int)]
    rfl
theorem prodN_drop (zs : List Nat) : ∀ k, prodN (zs.drop k) ≤ prodN zs
  | 0 => by simp
  | k + 1 => by
    cases zs with
    | nil => simp
    | cons a l =>
      rw [List.drop_succ_cons]
      refine Nat.le_trans (prodN_drop l k) ?_
      show prodN l ≤ (a + 1) * prodN l
      exact Nat.le_mul_of_pos_left _ (by omega)
set_option maxRecDepth 100000 in
set_option maxHeartbeats 4000000 in
theorem Size_gen (r : Value) (tk tn : Int) (ts : ByteArray) (ta : Option Addr) (tl tc : Nat) (ik im : Int) (is : ByteArray) (ia : Option Addr) (il ic : Nat) (zs : List Nat) (sz al : Int) (w : World) (h0 : 0 ≤ sz) (hp : sz * (prodN zs : Nat) ≤ 4096) (hl : zs.length ≤ 100000)
    (hE : ∀ w', w.grownBy w' none → Calls Tryd.prog 18 #[.agg #[.int .i64 tk, .int .i64 tn, .string ts, .slice ta tl tc]] w' fun e w'' => (∃ sv, e = .returned (.tuple #[.agg #[.int .i64 ik, .int .i64 im, .string is, .slice ia il ic], sv, .bool true]) ∧ IntsP (fun g => g < w''.heap.size) w'' sv zs) ∧ w'.grownBy w'' none)
    (hS : ∀ w', w.grownBy w' none → Calls Tryd.prog 19 #[r, .agg #[.int .i64 ik, .int .i64 im, .string is, .slice ia il ic]] w' fun e w'' => e = .returned (.tuple #[.int .i64 sz, .int .i64 al, .int .i64 0]) ∧ w'.grownBy w'' none) :
    Calls Tryd.prog 13 #[r, .agg #[.int .i64 tk, .int .i64 tn, .string ts, .slice ta tl tc]] w fun e w' => e = .returned (.tuple #[.int .i64 (sz * (prodN zs : Nat)), .int .i64 al, .int .i64 0]) ∧ w.grownBy w' none := by
  have HE := Lib.hid hE
  have HS := Lib.hid hS
  obtain ⟨st, hst⟩ : ∃ st, st = sz * (prodN zs : Nat) := ⟨_, rfl⟩
  rw [← hst]
  have HST := Lib.hid hst
  clear hE hS hst
  have hro : Fence.wide.round = none := rfl
  refine (callsIn_wide (n := 5)).1 ?_
  refine callsIn_of_wp_marks Tryd.func13 rfl trivial ?_ hro
  simp only [Tryd.ntmps13, List.size_toArray, List.length_cons, List.length_nil, Nat.reduceAdd, Nat.reduceSub, Array.replicate_succ, Array.replicate_zero, List.push_toArray, List.append_toArray, List.nil_append, List.cons_append]
  gi_wp2_with (refine ⟨trivial, ?_⟩; gi_at_call 18; refine (callsIn_wide.2 (HE.out _ (by repeat (first | with_reducible exact grownBy_refl _ _ | with_reducible assumption | with_reducible refine World.grownBy.gr_drew ?_ | with_reducible refine World.grownBy.gr_set ?_ (by simp) _ | with_reducible refine gr_alloc ?_ _)))).mono ?_; rintro e w1 ⟨⟨sv, rfl, hI⟩, hg⟩; refine Hid.out ?_)
  refine Lib.hid ?_
  generalize hB : w.heap.size = B
  have b0 := blk_new w (.cells #[.int .i64 tk, .int .i64 tn, .string ts, .slice ta tl tc] 26)
  generalize hw1 : w.alloc (.cells #[.int .i64 tk, .int .i64 tn, .string ts, .slice ta tl tc] 26) = wa at *
  have e1 : wa.heap.size = B + 1 := by rw [← hw1]; simp [hB]
  have b1 := blk_new wa (.cells #[.int .i64 0] 3)
  generalize hw2 : wa.alloc (.cells #[.int .i64 0] 3) = wb at *
  have e2 : wb.heap.size = B + 2 := by rw [← hw2]; simp [e1]
  have b2 := blk_new wb (.cells #[.int .i64 0] 3)
  generalize hw3 : wb.alloc (.cells #[.int .i64 0] 3) = wc at *
  have e3 : wc.heap.size = B + 3 := by rw [← hw3]; simp [e2]
  have b3 := blk_new wc (.cells #[.int .i64 0] 27)
  generalize hw4 : wc.alloc (.cells #[.int .i64 0] 27) = wd at *
  have e4 : wd.heap.size = B + 4 := by rw [← hw4]; simp [e3]
  have gD : w.grownBy wd none := by rw [← hw4, ← hw3, ← hw2, ← hw1]; exact gr_alloc (gr_alloc (gr_alloc (gr_alloc (grownBy_refl w none) _) _) _) _
  rw [e1] at b1
  rw [e2] at b2
  rw [e3] at b3
  have r1 : wd.heap[B + 1]? = some (.cells #[.int .i64 0] 3 (0, 0)) := by rw [← hw4, ← hw3]; exact blk_alloc (blk_alloc b1 _) _
  have r2 : wd.heap[B + 2]? = some (.cells #[.int .i64 0] 3 (0, 0)) := by rw [← hw4]; exact blk_alloc b2 _
  have q1 := (hg.block _ (lt_of_heap r1) (by simp)).trans r1
  have q2 := (hg.block _ (lt_of_heap r2) (by simp)).trans r2
  have q3 := (hg.block _ (lt_of_heap b3) (by simp)).trans b3
  have gW := grownBy_trans gD hg
  have hsz := hg.size
  rw [e4] at hsz
  clear hw1 hw2 hw3 hw4 b0 b1 b2 b3 e1 e2 e3 e4 r1 r2 gD hg wa wb wc wd
  obtain ⟨C, hC⟩ : ∃ C, C = w1.heap.size := ⟨_, rfl⟩
  have hsv : ∃ a n c, sv = .slice a n c := by
    rcases hI with ⟨rfl, _⟩ | ⟨b, cap, rfl, _⟩
    · exact ⟨_, _, _, rfl⟩
    · exact ⟨_, _, _, rfl⟩
  obtain ⟨a, len, cap, rfl⟩ := hsv
  have HQ1 := Lib.hid q1
  have HQ2 := Lib.hid q2
  have HQ3 := Lib.hid q3
  have HG1 := Lib.hid gW
  have HI := Lib.hid hI
  have hnew := blk_new w1 (.cells #[.int .i64 ik, .int .i64 im, .string is, .slice ia il ic] 26)
  obtain ⟨t0, t1, t2, t3, _⟩ := cells4_of hnew
  have HT := Lib.hid hnew
  clear q1 q2 q3 gW hI hnew
  gi_wp2_with (refine ⟨trivial, ?_⟩; gi_at_call 19; refine (callsIn_wide.2 (HS.out _ (gr_alloc HG1.out _))).mono ?_; rintro e w2 ⟨rfl, hg2⟩; refine Hid.out ?_)
  refine Lib.hid ?_
  have gT := grownBy_trans (gr_alloc (grownBy_refl w1 none) (.cells #[.int .i64 ik, .int .i64 im, .string is, .slice ia il ic] 26)) hg2
  have q1 := (gT.block _ (lt_of_heap HQ1.out) (by simp)).trans HQ1.out
  have q2 := (gT.block _ (lt_of_heap HQ2.out) (by simp)).trans HQ2.out
  have q3 := (gT.block _ (lt_of_heap HQ3.out) (by simp)).trans HQ3.out
  have g2 := grownBy_trans HG1.out gT
  have hI2 : IntsP (fun g => g < w2.heap.size) w2 (.slice a len cap) zs := by
    rcases HI.out with ⟨e1, e2⟩ | ⟨b, cap', e1, hb, hc⟩
    · exact .inl ⟨e1, e2⟩
    · exact .inr ⟨b, cap', e1, Nat.lt_of_lt_of_le hb gT.size, fun j hj => (World.cell?_of_block (gT.block b hb (by simp))).trans (hc j hj)⟩
  have hs2 := gT.size
  have hBC : B + 4 ≤ w2.heap.size := by omega
  rw [← hC] at *
  clear HQ1 HQ2 HQ3 HG1 HI gT hg2 t0 t1 t2 t3 HT HS HE
  obtain ⟨D, hD⟩ : ∃ D, D = w2.heap.size := ⟨_, rfl⟩
  have hDC : B + 4 ≤ D := by omega
  gi_wp2_with (refine ⟨trivial, ?_⟩; gi_at_call 20; refine (backward_in Fence.wide _ trivial rfl _ _ _ _).mono ?_; rintro e w3 ⟨rfl, rfl⟩)
  have hz0 : SzB ((w2.alloc (.cells #[.int .i64 sz] 3)).alloc (.cells #[.slice a len cap] 32)) B D 0 0 0 sz := by
    subst hD
    exact ⟨blk_alloc (blk_alloc q1 _) _, blk_alloc (blk_alloc q2 _) _, blk_alloc (blk_alloc q3 _) _, blk_alloc (blk_new _ _) _⟩
  have hs0 : ((w2.alloc (.cells #[.int .i64 sz] 3)).alloc (.cells #[.slice a len cap] 32)).cell? ⟨D + 1, 0, none⟩ = some (.slice a len cap) := by
    have h1 := blk_new (w2.alloc (.cells #[.int .i64 sz] 3)) (.cells #[.slice a len cap] 32)
    have h2 := cell_of_row _ _ 0 _ _ _ h1
    rw [hD]
    rw [World.size_alloc] at h2
    exact h2
  have hB0 : Below w.heap.size w ((w2.alloc (.cells #[.int .i64 sz] 3)).alloc (.cells #[.slice a len cap] 32)) := below_of_gr (gr_alloc (gr_alloc g2 _) _)
  have hIW : IntsP (fun g => g < D ∨ g = D + 1) ((w2.alloc (.cells #[.int .i64 sz] 3)).alloc (.cells #[.slice a len cap] 32)) (.slice a len cap) zs := by
    rcases hI2 with ⟨e1, e2⟩ | ⟨b, cap', e1, hb, hc⟩
    · exact .inl ⟨e1, e2⟩
    · refine .inr ⟨b, cap', e1, .inl (by rw [hD]; exact hb), fun j hj => (World.cell?_of_block ?_).trans (hc j hj)⟩
      exact (Below.heap_alloc _ _ _ (by simp; omega)).trans (Below.heap_alloc _ _ _ hb)
  have hsz0 : ((w2.alloc (.cells #[.int .i64 sz] 3)).alloc (.cells #[.slice a len cap] 32)).heap.size = D + 2 := by simp [← hD]
  rw [← hD]
  generalize ((w2.alloc (.cells #[.int .i64 sz] 3)).alloc (.cells #[.slice a len cap] 32)) = W0 at *
  clear hI2 q1 q2 q3 g2 hD hBC w2 hs2 hC
  have hpm : sz ≤ 4096 := by
    have h1 := prodN_pos zs
    have h2 : sz * 1 ≤ sz * (prodN zs : Nat) := Int.mul_le_mul_of_nonneg_left (by omega) h0
    omega
  refine wpIn_rangeFunc_ownG hro (by omega) (gf := 26) (lb := #[.pointer (some ⟨D + 1, 0, none⟩)]) rfl trivial (enters_of Tryd.func26 (by kernel_rfl) rfl)
    (backwardP_stops Fence.wide 4 trivial rfl (by omega) (D + 1) (fun g => g < D ∨ g = D + 1) _ zs (by omega) W0 (.inr rfl) hs0 hIW) KeepsOn.trans
    (fun W l o o' hl' _ _ _ => KeepsOn.putObj (fun e => by rcases e with e | e <;> omega) o') (Below.refl _ _) (fun _ => rfl)
    (fun pre W => (SzB W B D 0 0 0 (foldP sz pre) ∧ 0 ≤ foldP sz pre ∧ foldP sz pre ≤ 4096) ∧ Below w.heap.size w W)
    (fun _ xs _ => 4096 < foldP sz xs)
    (OwnFrom.and (Own.from (fun s A B row hs hg hr => ⟨⟨cells_own hs.1.b1 hg hr, cells_own hs.1.b2 hg hr, cells_own hs.1.b3 hg hr, cells_own hs.1.b4 hg hr⟩, hs.2⟩) _) (ownFrom_below (Nat.le_refl _) (by omega)))
    (fun _ _ _ _ _ hs _ _ => hs)
    ⟨⟨hz0, h0, hpm⟩, hB0⟩
    (fun x => { tmps := #[r, (.agg #[.int .i64 tk, .int .i64 tn, .string ts, .slice ta tl tc]), undef, .pointer (some ⟨B, 0, none⟩), .pointer (some ⟨B + 1, 0, none⟩), .pointer (some ⟨B + 2, 0, none⟩), .pointer (some ⟨B + 3, 0, none⟩), .pointer (some ⟨C, 0, none⟩), .slice a len cap, .bool true, .pointer (some ⟨D, 0, none⟩), .int .i64 al, .int .i64 0, undef, .int .i64 ((x.2 : Int) + 1), (.tuple #[(.agg #[.int .i64 ik, .int .i64 im, .string is, .slice ia il ic]), .slice a len cap, .bool true]), (.agg #[.int .i64 tk, .int .i64 tn, .string ts, .slice ta tl tc]), (.tuple #[(.agg #[.int .i64 ik, .int .i64 im, .string is, .slice ia il ic]), .slice a len cap, .bool true]), (.agg #[.int .i64 ik, .int .i64 im, .string is, .slice ia il ic]), .slice a len cap, .bool true, .bool true, .bool false, (.tuple #[.int .i64 sz, .int .i64 al, .int .i64 0]), r, (.agg #[.int .i64 ik, .int .i64 im, .string is, .slice ia il ic]), (.tuple #[.int .i64 sz, .int .i64 al, .int .i64 0]), .int .i64 sz, .int .i64 al, .int .i64 0, .int .i64 0, .bool false, undef, .slice a len cap, .func (.func 26) #[] #[.pointer (some ⟨D + 1, 0, none⟩)], .int .i64 (x.1 : Int), .int .i64 ((x.2 : Int) + 1), undef, undef, undef, undef, undef, undef, undef, undef, undef], defers := [] }) ?assign ?body ?done ?stop
  case assign =>
    intro l x W K hK
    gi_wp2
    exact hK
  case body =>
    rintro l pre x W ⟨⟨hz, hf0, hf1⟩, hBel⟩ _
    obtain ⟨d0, f0⟩ := cell1 hz.b4
    obtain ⟨n, hn⟩ : ∃ n : Int, n = (x.2 : Int) + 1 := ⟨_, rfl⟩
    obtain ⟨s, hs⟩ : ∃ s, s = foldP sz pre := ⟨_, rfl⟩
    have HF := Lib.hid (foldP_snoc sz pre x)
    rw [← hs, ← hn] at HF
    rw [← hs] at d0 hf0 hf1 hz
    have hn1 : 1 ≤ n := by omega
    have hn0 : ¬ n = 0 := by omega
    rw [← hn]
    have HZ := Lib.hid hz
    have HBel := Lib.hid hBel
    clear hn hs hz hBel hIW hs0 hz0 hB0
    obtain ⟨q, hq, hqs⟩ := quo_ok hn1
    by_cases hlt : s ≤ q
    · have hsn := (hqs s).1 hlt
      have hsn0 : 0 ≤ s * n := Int.mul_nonneg hf0 (by omega)
      have hw : IntKind.i64.wrap (s * n) = s * n := by rw [IntKind.wrap_i64]; omega
      have HQS := Lib.hid (And.intro hsn0 hsn)
      clear hqs hsn hsn0
      gi_wp2
      gi_region
      all_goals
        gi_wp2
        refine ⟨((KeepsOthers.drew W).trans (KeepsOthers.setCell _ _ _)).from _, KeepsOn.setCell (A := W.drew) (p := ⟨D, 0, none⟩) (by intro e; rcases e with e | e; exact absurd e (Nat.lt_irrefl _); exact absurd e (by show D ≠ D + 1; omega)) _, ⟨?_, ?_, ?_⟩, ?_⟩
        · rw [HF.out]
          exact (show SzB W.drew B D 0 0 0 s from ⟨HZ.out.b1, HZ.out.b2, HZ.out.b3, HZ.out.b4⟩).size hDC _
        · rw [HF.out]; exact HQS.out.1
        · rw [HF.out]; exact HQS.out.2
        · exact Below.setCell (p := ⟨D, 0, none⟩) (show Below w.heap.size w W.drew from ⟨HBel.out.os, HBel.out.tape, HBel.out.output, HBel.out.size, HBel.out.block⟩) (by show w.heap.size ≤ D; omega) _
    · have hsn : ¬ s * n ≤ 4096 := fun h => hlt ((hqs s).2 h)
      have HQS := Lib.hid hsn
      clear hqs hsn
      obtain ⟨m1, n1⟩ := cell1 HZ.out.b1
      obtain ⟨m2, n2⟩ := cell1 HZ.out.b2
      obtain ⟨m3, n3⟩ := cell1 HZ.out.b3
      gi_wp2
      gi_region
      all_goals
        gi_wp2
        refine ⟨((((KeepsOthers.drew W).trans (KeepsOthers.setCell _ _ _)).trans (KeepsOthers.setCell _ _ _)).trans (KeepsOthers.setCell _ _ _)).from _, ?_⟩
        have h1 := HQS.out
        have h2 := HF.out
        show 4096 < foldP sz (pre ++ [x])
        omega
  case done =>
    rintro E ys W hE rfl ⟨⟨hz, hf0, hf1⟩, hBel⟩ hK
    rw [foldP_upto sz zs zs.length (Nat.le_refl _), Nat.sub_self, List.drop_zero] at hz hf0 hf1
    rw [← HST.out] at hz hf0 hf1
    obtain ⟨m1, n1⟩ := cell1 hz.b1
    obtain ⟨m2, n2⟩ := cell1 hz.b2
    obtain ⟨m3, n3⟩ := cell1 hz.b3
    obtain ⟨m4, n4⟩ := cell1 hz.b4
    have HZ := Lib.hid hz
    have HBel := Lib.hid hBel
    have HK := Lib.hid hK
    clear hz hBel hK hIW hs0 hz0 hB0 hp
    gi_wp2
    have hz' := HZ.out.three hDC st al 0
    have hK' : (((W.setCell ⟨B + 1, 0, none⟩ (.int .i64 st)).setCell ⟨B + 2, 0, none⟩ (.int .i64 al)).setCell ⟨B + 3, 0, none⟩ (.int .i64 0)).heap[E]? = some (.deferred (some [])) :=
      (((KeepsOthers.setCell W _ _).trans (KeepsOthers.setCell _ _ _)).trans (KeepsOthers.setCell _ _ _)).same E _ HK.out rfl
    have hB' : Below w.heap.size w (((W.setCell ⟨B + 1, 0, none⟩ (.int .i64 st)).setCell ⟨B + 2, 0, none⟩ (.int .i64 al)).setCell ⟨B + 3, 0, none⟩ (.int .i64 0)) :=
      ((HBel.out.setCell (p := ⟨B + 1, 0, none⟩) (by show w.heap.size ≤ B + 1; omega) _).setCell (p := ⟨B + 2, 0, none⟩) (by show w.heap.size ≤ B + 2; omega) _).setCell (p := ⟨B + 3, 0, none⟩) (by show w.heap.size ≤ B + 3; omega) _
    rw [show B + 1 + 1 = B + 2 from rfl, show B + 2 + 1 = B + 3 from rfl]
    generalize (((W.setCell ⟨B + 1, 0, none⟩ (.int .i64 st)).setCell ⟨B + 2, 0, none⟩ (.int .i64 al)).setCell ⟨B + 3, 0, none⟩ (.int .i64 0)) = W4 at *
    have kept : ∀ {g : Nat} {c : Array Value} {t : TypeId} {fr : Nat × Nat}, W4.heap[g]? = some (.cells c t fr) → (W4.putObj E (.deferred none)).heap[g]? = some (.cells c t fr) := fun h => cells_own h (grownBy_putObj' W4 E (.deferred none)) (fun r e => by cases e; exact ⟨_, hK', rfl⟩)
    refine ⟨by simp, .inl ⟨_, _, rfl, run_takeDeferred hK', ?_⟩⟩
    obtain ⟨y1, _⟩ := cell1 (kept hz'.b1)
    obtain ⟨y2, _⟩ := cell1 (kept hz'.b2)
    obtain ⟨y3, _⟩ := cell1 (kept hz'.b3)
    have hgr := gr_of_below (hB'.trans (belowK_b (w := w) (Nat.le_refl _) W4 E _ (.deferred none) (by omega) hK' rfl rfl))
    refine ⟨.tuple #[.int .i64 st, .int .i64 al, .int .i64 0], by simp [results, Tryd.results13, go_sem, y1, y2, y3], ⟨rfl, hgr⟩⟩
  case stop =>
    rintro E c pre W _ ⟨k, hk, rfl⟩ h _
    exfalso
    rw [foldP_upto sz zs k hk] at h
    have h1 := prodN_drop zs (zs.length - k)
    have h2 : sz * (prodN (zs.drop (zs.length - k)) : Nat) ≤ sz * (prodN zs : Nat) := Int.mul_le_mul_of_nonneg_left (by omega) h0
    omega

end Go.Proofs.YtjfbkogjgjmndaaDoor
