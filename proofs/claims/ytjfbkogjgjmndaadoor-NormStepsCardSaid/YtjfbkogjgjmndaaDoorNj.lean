/- norm: offsets, Class, over arrays of numbers, without records. -/
import Derived.Test.YtjfbkogjgjmndaaDoorNi
namespace Go.Proofs.YtjfbkogjgjmndaaDoor
open Go.RowKit
open Go.Shelf
attribute [local go_sem] Oper.semAt_some
def intsV (l : List Int) : List Value := l.map fun x => Value.int .i64 x
/-- A slice of ints of the call's own. -/
def OwI (B : Nat) (W : World) (v : Value) (l : List Int) : Prop := W.ownsRow B 3 1 v l.length (intsV l)
theorem OwI.nil (B : Nat) (W : World) : OwI B W (.slice none 0 0) [] := World.ownsRow_nil _ _ _ _
theorem OwI.kind {B : Nat} {W : World} {v : Value} {l : List Int} (h : OwI B W v l) : ∀ g, v.ownBlock = some g → B ≤ g ∧ ∃ c fz, W.heap[g]? = some (.cells c 3 fz) := by
  intro g hg
  rcases h.2 with ⟨hv, _⟩ | ⟨g', cap, cur, hv, hb, hh, _⟩
  · subst hv; simp [Value.ownBlock] at hg
  · subst hv
    simp [Value.ownBlock] at hg
    subst hg
    exact ⟨hb, _, _, hh⟩
theorem OwI.keep {B : Nat} {W W' : World} {v : Value} {l : List Int} (h : OwI B W v l) (k : ∀ g c fz, v.ownBlock = some g → W.heap[g]? = some (.cells c 3 fz) → W'.heap[g]? = some (.cells c 3 fz)) : OwI B W' v l :=
  ⟨h.1, h.2.imp id fun ⟨g, cap, cur, e, hb, hh, r⟩ => ⟨g, cap, cur, e, hb, k g _ _ (by rw [e]; rfl) hh, r⟩⟩
theorem OwI.form {B : Nat} {W : World} {v : Value} {l : List Int} (h : OwI B W v l) : ∃ A c, v = .slice A l.length c := by
  rcases h.2 with ⟨hv, h0⟩ | ⟨g, cap, cur, hv, _⟩
  · exact ⟨none, 0, by rw [hv, h0]⟩
  · exact ⟨_, _, hv⟩
theorem OwI.alloc {B : Nat} {W : World} {v : Value} {l : List Int} (h : OwI B W v l) (o : Obj) : OwI B (W.alloc o) v l := h.keep fun _ _ _ _ hh => blk_alloc hh o
theorem OwI.ne {B : Nat} {W : World} {v : Value} {l : List Int} (h : OwI B W v l) {g : Nat} (hg : g < B) : v.ownBlock ≠ some g := fun e => by have := (h.kind g e).1; omega
theorem appG {F : Fence} {n : Nat} (w : World) {ops : Array Oper} {rest : List Oper} {o : Oper} {a : Act} {Q : Exit → Act → World → Prop} (hgd : o.guard = none) (s x : Operand)
    (ho : o.op = .call { callee := .builtin .append, args := #[s, x], argTypes := #[32, 32] })
    (base : Nat) (v : Value) (l : List Int) (hs : a.eval s = v) (hown : OwI base w v l) (b : Nat) (y : Int) (fz : Nat × Nat)
    (hx : a.eval x = .slice (some ⟨b, 0, none⟩) 1 1) (hb : w.heap[b]? = some (.cells #[.int .i64 y] 3 fz)) (hn : l.length ≤ 1000000) (hbase : base ≤ w.heap.size)
    (h : ∀ v' w', OwI base w' v' (l ++ [y]) → w.grownBy w' v.ownBlock → wpListIn F n Tryd.prog ops Q rest (a.put o.dst v') w') : wpListIn F n Tryd.prog ops Q (o :: rest) a w := by
  obtain ⟨i0, hi, hz0, hz1, hz2⟩ := info_parts infoInt
  refine wpListIn_append_own w hgd s x 32 ho base 3 i0 _ 1 8 Tryd.underlying32 hi hz0 hz1 hz2 rfl (by decide) v l.length (intsV l) hs hown ⟨b, 0, none⟩ 1 1 [.int .i64 y] hx rfl ?_ ?_ ?_ ?_ hbase fun v' w' h2 h3 _ => h v' w' ?_ h3
  · intro j u hu
    have e : (⟨b, 0, none⟩ : Addr).add j = ⟨b, j, none⟩ := by unfold Addr.add; split <;> simp_all
    rw [e, cell_of_row _ _ _ _ _ _ hb, ← Array.getElem?_toList]
    exact hu
  · intro u hu; simp at hu; subst hu; rfl
  · unfold maxLen; omega
  · omega
  · unfold OwI
    rw [List.length_append, show intsV (l ++ [y]) = intsV l ++ [.int .i64 y] by simp [intsV]]
    exact h2
theorem app_others {W w3 : World} {o : Obj} {D B X : Nat} {v val : Value} {l : List Int} (hO : OwI B W v l) (hg3 : (W.alloc o).grownBy w3 v.ownBlock) : KeepsFrom X W (w3.setCell ⟨D, 0, none⟩ val) :=
  (((KeepsOthers.alloc W o).trans (KeepsOthers.of_grownBy hg3 (fun j ob hj hob => by
    obtain ⟨_, c, fz, hh⟩ := hO.kind j hj
    rw [blk_alloc hh o] at hob
    cases hob
    rfl))).trans (KeepsOthers.setCell _ _ _)).from _
theorem app_kp {W w3 : World} {o : Obj} {D B bn : Nat} {v v0 val : Value} {l : List Int} (hO : OwI B W v l) (hg3 : (W.alloc o).grownBy w3 v.ownBlock) (hD : W.heap[D]? = some (.cells #[v0] 32 (0, 0))) (hDn : D ≠ bn) (hD0 : D ≠ 0) (hbn : bn < B) :
    KpT bn W (w3.setCell ⟨D, 0, none⟩ val) := by
  refine ⟨?_, fun g cs t fr hg ht => ?_⟩
  · have h1 := hg3.size
    rw [World.size_alloc] at h1
    simp [World.setCell]
    omega
  · have hgD : g ≠ D := fun e => by
      subst e
      rw [hD] at hg
      injection hg with hg
      injection hg with _ hg
      rcases ht with h | h | h
      · exact hDn h
      · exact hD0 h
      · exact h.2 hg.symm
    have hgo : v.ownBlock ≠ some g := fun e => by
      obtain ⟨h1, c, fz, hh⟩ := hO.kind g e
      rw [hg] at hh
      injection hh with hh
      injection hh with _ hh
      rcases ht with h | h | h
      · omega
      · omega
      · exact h.1 hh
    exact (Below.heap_setCell _ _ _ _ hgD).trans ((hg3.block g (by have := lt_of_heap hg; rw [World.size_alloc]; omega) (fun e => hgo e.symm)).trans (blk_alloc hg o))
theorem app_below {w W w3 : World} {o : Obj} {D B : Nat} {v val : Value} {l : List Int} (hb : Below w.heap.size w W) (hO : OwI B W v l) (hg3 : (W.alloc o).grownBy w3 v.ownBlock) (hB : w.heap.size ≤ B) (hD : w.heap.size ≤ D) : Below w.heap.size w (w3.setCell ⟨D, 0, none⟩ val) :=
  ((hb.alloc hb.size o).grown hg3 (by rw [World.size_alloc]; have := hb.size; omega) (fun k hk => Nat.le_trans hB (hO.kind k hk).1)).setCell (p := ⟨D, 0, none⟩) hD _
theorem OwI.off {B D : Nat} {W : World} {v val : Value} {l : List Int} (h : OwI B W v l) (hD : D < B) : OwI B (W.setCell ⟨D, 0, none⟩ val) v l :=
  h.keep fun g c fz hg hh => (Below.heap_setCell _ _ _ _ (fun e => by have := (h.kind g hg).1; have e' : g = D := e; omega)).trans hh
set_option maxRecDepth 100000 in
set_option maxHeartbeats 4000000 in
theorem offsets_any (r : Value) (hr : r = .slice none 0 0) (tk tn : Int) (ts : ByteArray) (ta : Option Addr) (tl tc : Nat) (n : Int) (w : World) :
    Calls Tryd.prog 12 #[r, .agg #[.int .i64 tk, .int .i64 tn, .string ts, .slice ta tl tc], .int .i64 n] w fun e w' => e = .returned (.func (.func 17) #[] #[.pointer (some ⟨w.heap.size + 1, 0, none⟩), .pointer (some ⟨w.heap.size + 2, 0, none⟩), .pointer (some ⟨w.heap.size, 0, none⟩)]) ∧
      w' = ((w.alloc (.cells #[r] 37)).alloc (.cells #[.int .i64 tk, .int .i64 tn, .string ts, .slice ta tl tc] 26)).alloc (.cells #[.int .i64 n] 3) := by
  subst hr
  go_enter Tryd.func12, Tryd.ntmps12
  go_wp2_with fail
  go_ret
  exact ⟨rfl, rfl⟩
/-- The offsets that lie where v lies. -/
def clsI (m x v : Int) (xs : List Nat) : List Int := (xs.filter fun o : Nat => decide (nrm m x (o : Int) = v)).map fun o : Nat => (o : Int)
theorem clsI_yes {m x v : Int} {xs : List Nat} {o : Nat} (h : nrm m x (o : Int) = v) : clsI m x v (xs ++ [o]) = clsI m x v xs ++ [(o : Int)] := by
  unfold clsI
  rw [List.filter_append, List.map_append, List.filter_cons_of_pos (by simp [h])]
  rfl
theorem clsI_no {m x v : Int} {xs : List Nat} {o : Nat} (h : nrm m x (o : Int) ≠ v) : clsI m x v (xs ++ [o]) = clsI m x v xs := by
  unfold clsI
  rw [List.filter_append, List.filter_cons_of_neg (by simp [h])]
  simp
theorem clsI_len (m x v : Int) (xs : List Nat) : (clsI m x v xs).length ≤ xs.length := by
  unfold clsI
  rw [List.length_map]
  exact List.length_filter_le _ _
set_option maxRecDepth 100000 in
set_option maxHeartbeats 4000000 in
theorem Class_ar (n : Nat) (k off : Int) (b c : Nat) (hk : numK k = true) (hn : widthK k * ((n : Int) + 1) ≤ 4096) (h0 : 0 ≤ off) (h1 : off ≤ widthK k * ((n : Int) + 1)) (w : World) (hv : VarsK w) (hb : ArrAt w b k) :
    Calls Tryd.prog 8 #[.slice none 0 0, arV ((n : Int) + 1) b c, .int .i64 off] w fun e w' => (∃ v, e = .returned (.tuple #[v, .int .i64 0]) ∧ OwI w.heap.size w' v (clsI (widthK k * ((n : Int) + 1)) (widthK k) (nrm (widthK k * ((n : Int) + 1)) (widthK k) off) (List.range ((widthK k * ((n : Int) + 1)).toNat + 1)))) ∧ w.grownBy w' none := by
  have HN := Lib.hid (fun (w' : World) (g : w.grownBy w' none) => Norm_ar n k off b c hk hn h0 h1 w' (hv.grown g) (hb.gr g))
  have HS := Lib.hid (fun (w' : World) (g : w.grownBy w' none) => sizeOf_ar (.slice none 0 0) n k b c hk hn w' (hv.grown g) (hb.gr g))
  have HOF := Lib.hid (fun (m : Nat) (hm : m ≤ 4096) (bt bn br : Nat) (w' : World) (g : w.grownBy w' none) (a1 : _) (a2 : _) (a3 : _) => offs_stops 4 (by omega) ((n : Int) + 1) k m b c bt bn br hk hm w' (hv.grown g) a1 (hb.gr g) a2 a3)
  obtain ⟨m, hm⟩ : ∃ m : Nat, widthK k * ((n : Int) + 1) = (m : Int) := by
    have h2 : 0 ≤ widthK k * ((n : Int) + 1) := Int.mul_nonneg (wid_le k).1 (by omega)
    exact ⟨(widthK k * ((n : Int) + 1)).toNat, by omega⟩
  have hvb : 0 < w.heap.size := lt_of_heap hv.choose_spec.choose_spec
  rw [hm] at hn HN HS ⊢
  rw [Int.toNat_natCast]
  clear hv hb h0 h1 hk hm
  generalize hown : nrm (m : Int) (widthK k) off = own at *
  generalize widthK k = x at *
  clear hown
  unfold arV tV at *
  have hro : Fence.wide.round = none := rfl
  refine (callsIn_wide (n := 5)).1 ?_
  refine callsIn_of_wp_marks Tryd.func8 rfl trivial ?_ hro
  simp only [Tryd.ntmps8, List.size_toArray, List.length_cons, List.length_nil, Nat.reduceAdd, Nat.reduceSub, Array.replicate_succ, Array.replicate_zero, List.push_toArray, List.append_toArray, List.nil_append, List.cons_append]
  gi_wp2_with (refine ⟨trivial, ?_⟩; gi_at_call 5; refine (callsIn_wide.2 (HN.out _ (by repeat (first | with_reducible exact grownBy_refl _ _ | with_reducible assumption | with_reducible refine World.grownBy.gr_drew ?_ | with_reducible refine World.grownBy.gr_set ?_ (by simp) _ | with_reducible refine gr_alloc ?_ _)))).mono ?_; rintro e w1 ⟨rfl, hg1⟩; refine Hid.out ?_)
  refine Lib.hid ?_
  have hbt := (hg1.block _ (by simp) (by simp)).trans (blk_new w (.cells #[.int .i64 6, .int .i64 ((n : Int) + 1), .string ⟨#[]⟩, .slice (some ⟨b, 0, none⟩) 1 c] 26))
  have hg := grownBy_trans (gr_alloc (grownBy_refl w none) (.cells #[.int .i64 6, .int .i64 ((n : Int) + 1), .string ⟨#[]⟩, .slice (some ⟨b, 0, none⟩) 1 c] 26)) hg1
  clear hg1
  have HBT := Lib.hid (blk_alloc hbt (.cells #[.int .i64 own] 3))
  have HB8 := Lib.hid (blk_new w1 (.cells #[.int .i64 own] 3))
  have HG := Lib.hid (gr_alloc hg (.cells #[.int .i64 own] 3))
  have hs1 := hg.size
  obtain ⟨c0, c1, c2, c3, -⟩ := cells4_of HBT.out
  clear hbt hg
  gi_wp2_with (refine ⟨trivial, ?_⟩; gi_at_call 10; refine (callsIn_wide.2 (HS.out _ HG.out)).mono ?_; rintro e w2 ⟨rfl, hg2⟩; refine Hid.out ?_)
  refine Lib.hid ?_
  have hbt := (hg2.block _ (lt_of_heap HBT.out) (by simp)).trans HBT.out
  have hb8 := (hg2.block _ (lt_of_heap HB8.out) (by simp)).trans HB8.out
  have hg := grownBy_trans HG.out hg2
  have hs2 := hg2.size
  rw [World.size_alloc] at hs2
  obtain ⟨E8, hE8⟩ : ∃ E8, E8 = w1.heap.size := ⟨_, rfl⟩
  rw [← hE8] at hb8 hs2 hs1 ⊢
  clear hg2 HBT HB8 HG HN HS c0 c1 c2 c3 hE8 w1
  have HBT := Lib.hid (blk_alloc hbt (.cells #[.slice none 0 0] 32))
  have HB8 := Lib.hid (blk_alloc hb8 (.cells #[.slice none 0 0] 32))
  have HBD := Lib.hid (blk_new w2 (.cells #[.slice none 0 0] 32))
  have HG := Lib.hid (gr_alloc hg (.cells #[.slice none 0 0] 32))
  obtain ⟨c0, c1, c2, c3, -⟩ := cells4_of HBT.out
  clear hbt hb8 hg
  gi_wp2_with (refine ⟨trivial, ?_⟩; gi_at_call 12; refine (callsIn_wide.2 (offsets_any _ rfl _ _ _ _ _ _ _ _)).mono ?_; rintro e w3 ⟨rfl, rfl⟩; refine Hid.out ?_)
  refine Lib.hid ?_
  obtain ⟨D, hD⟩ : ∃ D, D = w2.heap.size := ⟨_, rfl⟩
  have hs3 : (w2.alloc (.cells #[.slice none 0 0] 32)).heap.size = D + 1 := by rw [World.size_alloc, hD]
  rw [← hD] at HBD hs2
  have HV := HBD.out
  generalize (w2.alloc (.cells #[.slice none 0 0] 32)) = w3 at *
  rw [← hD]
  have p1 := blk_alloc (blk_alloc (blk_new w3 (.cells #[.slice none 0 0] 37)) (.cells #[.int .i64 6, .int .i64 ((n : Int) + 1), .string ⟨#[]⟩, .slice (some ⟨b, 0, none⟩) 1 c] 26)) (.cells #[.int .i64 (m : Int)] 3)
  have p2 := blk_alloc (blk_new (w3.alloc (.cells #[.slice none 0 0] 37)) (.cells #[.int .i64 6, .int .i64 ((n : Int) + 1), .string ⟨#[]⟩, .slice (some ⟨b, 0, none⟩) 1 c] 26)) (.cells #[.int .i64 (m : Int)] 3)
  have p3 := blk_new ((w3.alloc (.cells #[.slice none 0 0] 37)).alloc (.cells #[.int .i64 6, .int .i64 ((n : Int) + 1), .string ⟨#[]⟩, .slice (some ⟨b, 0, none⟩) 1 c] 26)) (.cells #[.int .i64 (m : Int)] 3)
  have g4 : w.grownBy (((w3.alloc (.cells #[.slice none 0 0] 37)).alloc (.cells #[.int .i64 6, .int .i64 ((n : Int) + 1), .string ⟨#[]⟩, .slice (some ⟨b, 0, none⟩) 1 c] 26)).alloc (.cells #[.int .i64 (m : Int)] 3)) none := gr_alloc (gr_alloc (gr_alloc HG.out _) _) _
  have p4 := blk_alloc (blk_alloc (blk_alloc HBD.out (.cells #[.slice none 0 0] 37)) (.cells #[.int .i64 6, .int .i64 ((n : Int) + 1), .string ⟨#[]⟩, .slice (some ⟨b, 0, none⟩) 1 c] 26)) (.cells #[.int .i64 (m : Int)] 3)
  have p5 := blk_alloc (blk_alloc (blk_alloc HB8.out (.cells #[.slice none 0 0] 37)) (.cells #[.int .i64 6, .int .i64 ((n : Int) + 1), .string ⟨#[]⟩, .slice (some ⟨b, 0, none⟩) 1 c] 26)) (.cells #[.int .i64 (m : Int)] 3)
  have hs4 : (((w3.alloc (.cells #[.slice none 0 0] 37)).alloc (.cells #[.int .i64 6, .int .i64 ((n : Int) + 1), .string ⟨#[]⟩, .slice (some ⟨b, 0, none⟩) 1 c] 26)).alloc (.cells #[.int .i64 (m : Int)] 3)).heap.size = D + 4 := by simp [hs3]
  simp only [World.size_alloc, hs3] at p1 p2 p3
  generalize (((w3.alloc (.cells #[.slice none 0 0] 37)).alloc (.cells #[.int .i64 6, .int .i64 ((n : Int) + 1), .string ⟨#[]⟩, .slice (some ⟨b, 0, none⟩) 1 c] 26)).alloc (.cells #[.int .i64 (m : Int)] 3)) = W0 at *
  clear HBT HB8 HBD HG HV c0 c1 c2 c3 hs3 hD w3 w2
  gi_wp2
  have HSQ := HOF.out m (by omega) (D + 2) (D + 3) (D + 1) W0 g4 p2 p3 p1
  clear HOF p1 p2 p3
  refine wpIn_rangeFunc_ownG hro (by omega) (gf := 17) (lb := #[.pointer (some ⟨D + 2, 0, none⟩), .pointer (some ⟨D + 3, 0, none⟩), .pointer (some ⟨D + 1, 0, none⟩)]) rfl trivial (enters_of Tryd.func17 (by kernel_rfl) rfl)
    HSQ KpT.trans
    (fun W l o o' _ ho hc _ => ⟨by simp, fun g cs t fr hg _ => ?hput⟩) (Below.refl _ _) (fun _ => rfl)
    (fun xs W => ((∃ v, W.heap[D]? = some (.cells #[v] 32 (0, 0)) ∧ OwI (D + 4) W v (clsI (m : Int) x own xs)) ∧ W.heap[E8]? = some (.cells #[.int .i64 own] 3 (0, 0)) ∧ D + 4 ≤ W.heap.size) ∧ Below w.heap.size w W)
    (fun _ _ _ => False)
    (OwnFrom.and (Own.from (fun s A B row hs hg hr => ⟨?hown, cells_own hs.2.1 hg hr, Nat.le_trans hs.2.2 hg.size⟩) _) (ownFrom_below (Nat.le_refl _) (by omega)))
    (fun _ _ _ _ _ hs _ _ => hs)
    ⟨⟨⟨_, p4, OwI.nil _ _⟩, p5, Nat.le_of_eq hs4.symm⟩, below_of_gr g4⟩
    (fun o => { tmps := #[.slice none 0 0, (.agg #[.int .i64 6, .int .i64 ((n : Int) + 1), .string ⟨#[]⟩, .slice (some ⟨b, 0, none⟩) 1 c]), .int .i64 off, undef, .pointer (some ⟨w.heap.size, 0, none⟩), undef, .slice none 0 0, .int .i64 0, .pointer (some ⟨E8, 0, none⟩), .int .i64 0, .int .i64 (m : Int), .int .i64 0, .pointer (some ⟨D, 0, none⟩), .int .i64 (o : Int), .int .i64 (nrm (m : Int) x (o : Int)), (.tuple #[.int .i64 own, .int .i64 0]), .slice none 0 0, (.agg #[.int .i64 6, .int .i64 ((n : Int) + 1), .string ⟨#[]⟩, .slice (some ⟨b, 0, none⟩) 1 c]), .int .i64 off, (.tuple #[.int .i64 own, .int .i64 0]), .int .i64 own, .int .i64 0, .int .i64 0, .bool false, undef, (.tuple #[.int .i64 (m : Int), .int .i64 0]), .slice none 0 0, (.agg #[.int .i64 6, .int .i64 ((n : Int) + 1), .string ⟨#[]⟩, .slice (some ⟨b, 0, none⟩) 1 c]), (.tuple #[.int .i64 (m : Int), .int .i64 0]), .int .i64 (m : Int), .int .i64 0, .slice none 0 0, (.agg #[.int .i64 6, .int .i64 ((n : Int) + 1), .string ⟨#[]⟩, .slice (some ⟨b, 0, none⟩) 1 c]), .int .i64 (m : Int), .func (.func 17) #[] #[.pointer (some ⟨D + 2, 0, none⟩), .pointer (some ⟨D + 3, 0, none⟩), .pointer (some ⟨D + 1, 0, none⟩)], .int .i64 (o : Int), .int .i64 (nrm (m : Int) x (o : Int)), undef, undef, undef, undef, undef, undef, undef, undef], defers := [] }) ?assign ?body ?done ?stop
  case hput => exact (World.putObj_heap_other (fun e => by rw [← e, hg] at ho; cases ho; cases hc)).trans hg
  case hown =>
    obtain ⟨⟨v, h1, h2⟩, _⟩ := hs
    exact ⟨v, cells_own h1 hg hr, h2.keep fun g c fz _ hh => cells_own hh hg hr⟩
  case assign =>
    intro l o W K hK
    gi_wp2
    exact hK
  case body =>
    rintro l pre o W ⟨⟨⟨v, hD, hO⟩, h8, h4⟩, hBel⟩ hlen
    obtain ⟨A, cc, rfl⟩ := hO.form
    obtain ⟨d0, f0⟩ := cell1 hD
    obtain ⟨d1, _⟩ := cell1 h8
    have hcl := clsI_len (m : Int) x own pre
    obtain ⟨z, hz⟩ : ∃ z, z = nrm (m : Int) x (o : Int) := ⟨_, rfl⟩
    rw [← hz]
    have hBs := hBel.size
    have hDs := lt_of_heap hD
    have HD := Lib.hid hD
    have HO := Lib.hid hO
    have H8 := Lib.hid h8
    have HBel := Lib.hid hBel
    have HZ := Lib.hid hz
    clear hD hO h8 hBel hz HSQ p4 p5 g4
    by_cases hzo : z = own
    · have e1 : (z == own) = true := by simp [hzo]
      gi_wp2_with (gi_at_builtin; go_must (refine appG _ rfl (.tmp 40) (.tmp 42) rfl (D + 4) _ (clsI (m : Int) x own pre) rfl (HO.out.alloc _) W.heap.size (o : Int) _ rfl (heap_alloc_new W (.cells #[.int .i64 (o : Int)] 3)) (by omega) (by simp only [World.size_alloc]; omega) ?_; intro v3 w3 ho3 hg3; have hd3 := (hg3.block D (lt_of_heap (blk_alloc HD.out _)) (fun e => HO.out.ne (by omega) e.symm)).trans (blk_alloc HD.out _); obtain ⟨y0, y1⟩ := cell1 hd3; have HD3 := Lib.hid hd3; obtain ⟨A3, c3, rfl⟩ := ho3.form; have HO3 := Lib.hid ho3; have HG3 := Lib.hid hg3; clear ho3 hg3 hd3))
      have hno : (Value.slice A (clsI (m : Int) x own pre).length cc).ownBlock ≠ some E8 := HO.out.ne (by omega)
      have hE3 := (HG3.out.block E8 (lt_of_heap (blk_alloc H8.out _)) (fun e => hno e.symm)).trans (blk_alloc H8.out _)
      have hs3 := HG3.out.size
      rw [World.size_alloc] at hs3
      refine ⟨app_others HO.out HG3.out, app_kp HO.out HG3.out HD.out (by omega) (by omega) (by omega), ⟨⟨_, set1 HD3.out _, ?_⟩, off1 hE3 (by omega) _, ?_⟩, app_below HBel.out HO.out HG3.out (by omega) (by omega)⟩
      · rw [clsI_yes (by rw [← HZ.out]; exact hzo)]
        have h9 := HO3.out
        rw [List.length_append] at h9
        exact h9.off (by omega)
      · have : ∀ (V : World) (a : Addr) (u : Value), (V.setCell a u).heap.size = V.heap.size := fun V a u => by simp [World.setCell]
        rw [this]
        omega
    · have e1 : (z == own) = false := by simp [hzo]
      gi_wp2
      refine ⟨KeepsFrom.refl _ _, KpT.refl _ _, ⟨⟨_, HD.out, ?_⟩, H8.out, h4⟩, HBel.out⟩
      rw [clsI_no (by rw [← HZ.out]; exact hzo)]
      exact HO.out
  case stop =>
    rintro E c pre W _ _ h _
    exact h.elim
  case done =>
    rintro E ys W hE rfl ⟨⟨⟨v, hD, hO⟩, h8, h4⟩, hBel⟩ hK
    obtain ⟨A, cc, rfl⟩ := hO.form
    obtain ⟨d0, -⟩ := cell1 hD
    obtain ⟨L, hL⟩ : ∃ L, L = clsI (m : Int) x own (List.range (m + 1)) := ⟨_, rfl⟩
    rw [← hL] at hO d0
    have HL := Lib.hid hL
    have HO := Lib.hid hO
    have HBel := Lib.hid hBel
    have HK := Lib.hid hK
    clear hL hD hO h8 h4 hBel hK HSQ p4 p5 g4
    gi_wp2
    refine ⟨by simp, .inl ⟨_, _, rfl, run_takeDeferred HK.out, ?_⟩⟩
    have hgr := gr_of_below (HBel.out.trans (belowK_b (w := w) (Nat.le_refl _) W E _ (.deferred none) (by omega) HK.out rfl rfl))
    have hO2 : OwI (D + 4) (W.putObj E (.deferred none)) (.slice A L.length cc) L := HO.out.keep fun g c fz _ hh => cells_own hh (grownBy_putObj' W E (.deferred none)) (fun r e => by cases e; exact ⟨_, HK.out, rfl⟩)
    refine ⟨.tuple #[.slice A L.length cc, .int .i64 0], by simp [results, Tryd.results8, go_sem], ⟨⟨_, rfl, ?_⟩, hgr⟩⟩
    rw [← HL.out]
    exact ⟨hO2.1, hO2.2.imp id fun ⟨g, cap, cur, e, hb, r⟩ => ⟨g, cap, cur, e, by omega, r⟩⟩

end Go.Proofs.YtjfbkogjgjmndaaDoor
