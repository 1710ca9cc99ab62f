/- norm: Offs, over arrays of numbers, without records. -/
import Derived.Test.YtjfbkogjgjmndaaDoorNj
import Derived.Maps.OwnIn
import Derived.Maps.OwnSet
namespace Go.Proofs.YtjfbkogjgjmndaaDoor
open Go.RowKit
open Go.Shelf Go.ChangeMaps Go.MapKept Go.WideShapes
attribute [local go_sem] Oper.semAt_some
theorem keyInt : Maps.Keyed Tryd.prog 3 := Maps.int_keyed (q := .i64) (by kernel_rfl)
/-- The map at b has just the numbers L. -/
def MapI (W : World) (b : Nat) (L : List Int) : Prop := ∃ n, ∃ D : DataW Unit, n ≤ L.length ∧ W.ownsMap Tryd.prog 3 unitElem b n D ∧ ∀ z : Int, (Lit.int .i64 z).wf = true → Maps.has D (.int .i64 z) = decide (z ∈ L)
theorem OwI.mapd {B : Nat} {W w2 : World} {v : Value} {l : List Int} {o : Obj} {b : Nat} (h : OwI B W v l) (hg : (W.alloc o).grownBy w2 (some b)) (hb : b < B) : OwI B w2 v l :=
  h.keep fun g c fz hgv hh => (hg.block g (lt_of_heap (blk_alloc hh o)) (fun e => by injection e with e; have := (h.kind g hgv).1; omega)).trans (blk_alloc hh o)
theorem map_kp {W w2 : World} {o : Obj} {b n bn : Nat} {D : DataW Unit} {k : TypeId} {R : Value → Option (DataW Unit × List MemPlace)} (h : W.ownsMap Tryd.prog k R b n D) (hg : (W.alloc o).grownBy w2 (some b)) : KpT bn W w2 := by
  obtain ⟨es, clock, hb, _⟩ := h
  refine ⟨?_, fun g cs t fr hgc _ => ?_⟩
  · have := hg.size
    rw [World.size_alloc] at this
    omega
  · refine (hg.block g (lt_of_heap (blk_alloc hgc o)) (fun e => ?_)).trans (blk_alloc hgc o)
    injection e with e
    rw [e, hb] at hgc
    cases hgc
/-- Where the offsets lie, each once. -/
def ddI (m x : Int) (xs : List Nat) : List Int := xs.foldl (fun l (o : Nat) => if nrm m x (o : Int) ∈ l then l else l ++ [nrm m x (o : Int)]) []
theorem ddI_snoc (m x : Int) (xs : List Nat) (o : Nat) : ddI m x (xs ++ [o]) = if nrm m x (o : Int) ∈ ddI m x xs then ddI m x xs else ddI m x xs ++ [nrm m x (o : Int)] := by
  unfold ddI
  rw [List.foldl_append]
  rfl
theorem ddI_len (m x : Int) : ∀ (xs : List Nat), (ddI m x xs).length ≤ xs.length := by
  intro xs
  suffices h : ∀ (xs : List Nat) (l : List Int), (xs.foldl (fun l (o : Nat) => if nrm m x (o : Int) ∈ l then l else l ++ [nrm m x (o : Int)]) l).length ≤ l.length + xs.length by
    have := h xs []
    simpa [ddI] using this
  intro xs
  induction xs with
  | nil => intro l; simp
  | cons a r ih =>
    intro l
    rw [List.foldl_cons, List.length_cons]
    refine Nat.le_trans (ih _) ?_
    split
    · omega
    · rw [List.length_append]; simp; omega
set_option maxRecDepth 100000 in
set_option maxHeartbeats 4000000 in
theorem Offs_ar (n : Nat) (k : Int) (b c : Nat) (hk : numK k = true) (hn : widthK k * ((n : Int) + 1) ≤ 4096) (w : World) (hv : VarsK w) (hb : ArrAt w b k) :
    Calls Tryd.prog 7 #[.slice none 0 0, arV ((n : Int) + 1) b c] w fun e w' => (∃ v, e = .returned (.tuple #[v, .int .i64 0]) ∧ OwI w.heap.size w' v (ddI (widthK k * ((n : Int) + 1)) (widthK k) (List.range ((widthK k * ((n : Int) + 1)).toNat + 1)))) ∧ w.grownBy w' none := by
  have HS := Lib.hid (fun (w' : World) (g : w.grownBy w' none) => sizeOf_ar (.slice none 0 0) n k b c hk hn w' (hv.grown g) (hb.gr g))
  have HOF := Lib.hid (fun (m : Nat) (hm : m ≤ 4096) (bt bn br : Nat) (w' : World) (g : w.grownBy w' none) (a1 : _) (a2 : _) (a3 : _) => offs_stops 4 (by omega) ((n : Int) + 1) k m b c bt bn br hk hm w' (hv.grown g) a1 (hb.gr g) a2 a3)
  obtain ⟨m, hm⟩ : ∃ m : Nat, widthK k * ((n : Int) + 1) = (m : Int) := by
    have h2 : 0 ≤ widthK k * ((n : Int) + 1) := Int.mul_nonneg (wid_le k).1 (by omega)
    exact ⟨(widthK k * ((n : Int) + 1)).toNat, by omega⟩
  have hvb : 0 < w.heap.size := lt_of_heap hv.choose_spec.choose_spec
  have hx8 := wid_le k
  have hx1 : 1 ≤ widthK k := by
    unfold numK at hk
    have hk' : k = 2 ∨ k = 3 ∨ k = 4 := of_decide_eq_true hk
    rcases hk' with rfl | rfl | rfl <;> decide
  rw [hm] at hn HS ⊢
  rw [Int.toNat_natCast]
  clear hv hb hk hm
  generalize widthK k = x at *
  unfold arV tV at *
  have hro : Fence.wide.round = none := rfl
  have hmm := @run_makeMap Tryd.prog
  refine (callsIn_wide (n := 5)).1 ?_
  refine callsIn_of_wp_marks Tryd.func7 rfl trivial ?_ hro
  simp only [Tryd.ntmps7, List.size_toArray, List.length_cons, List.length_nil, Nat.reduceAdd, Nat.reduceSub, Array.replicate_succ, Array.replicate_zero, List.push_toArray, List.append_toArray, List.nil_append, List.cons_append]
  gi_wp2_with (refine ⟨trivial, ?_⟩; gi_at_call 10; refine (callsIn_wide.2 (HS.out _ (by repeat (first | with_reducible exact grownBy_refl _ _ | with_reducible assumption | with_reducible refine World.grownBy.gr_drew ?_ | with_reducible refine World.grownBy.gr_set ?_ (by simp) _ | with_reducible refine gr_alloc ?_ _)))).mono ?_; rintro e w1 ⟨rfl, hg1⟩; refine Hid.out ?_)
  refine Lib.hid ?_
  have hbt := (hg1.block _ (by simp) (by simp)).trans (blk_new w (.cells #[.int .i64 6, .int .i64 ((n : Int) + 1), .string ⟨#[]⟩, .slice (some ⟨b, 0, none⟩) 1 c] 26))
  have hg := grownBy_trans (gr_alloc (grownBy_refl w none) (.cells #[.int .i64 6, .int .i64 ((n : Int) + 1), .string ⟨#[]⟩, .slice (some ⟨b, 0, none⟩) 1 c] 26)) hg1
  clear hg1
  have HBT := Lib.hid hbt
  have HG := Lib.hid hg
  have hs1 := hg.size
  obtain ⟨D, hD⟩ : ∃ D, D = w1.heap.size := ⟨_, rfl⟩
  have hs0 : w.heap.size + 1 ≤ D := by have := lt_of_heap hbt; omega
  clear hbt hg
  have k1 := blk_new w1 (.cells #[.slice none 0 0] 32)
  have k2 := blk_new (w1.alloc (.cells #[.slice none 0 0] 32)) (.map #[] 0)
  have k3 := blk_new ((w1.alloc (.cells #[.slice none 0 0] 32)).alloc (.map #[] 0)) (.cells #[.map (some (w1.heap.size + 1))] 40)
  have g3 : w.grownBy (((w1.alloc (.cells #[.slice none 0 0] 32)).alloc (.map #[] 0)).alloc (.cells #[.map (some (w1.heap.size + 1))] 40)) none := gr_alloc (gr_alloc (gr_alloc HG.out _) _) _
  have b3 := blk_alloc (blk_alloc (blk_alloc HBT.out (.cells #[.slice none 0 0] 32)) (.map #[] 0)) (.cells #[.map (some (w1.heap.size + 1))] 40)
  have k1' := blk_alloc (blk_alloc k1 (.map #[] 0)) (.cells #[.map (some (w1.heap.size + 1))] 40)
  have k2' := blk_alloc k2 (.cells #[.map (some (w1.heap.size + 1))] 40)
  have e3 : (((w1.alloc (.cells #[.slice none 0 0] 32)).alloc (.map #[] 0)).alloc (.cells #[.map (some (w1.heap.size + 1))] 40)).heap.size = D + 3 := by simp [hD]
  simp only [World.size_alloc, ← hD] at k1' k2' k3
  obtain ⟨c0, c1, c2, c3, -⟩ := cells4_of b3
  gi_wp2_with (refine ⟨trivial, ?_⟩; gi_at_call 12; refine (callsIn_wide.2 (offsets_any _ rfl _ _ _ _ _ _ _ _)).mono ?_; rintro e w3 ⟨rfl, rfl⟩; refine Hid.out ?_)
  refine Lib.hid ?_
  rw [← hD] at *
  generalize ((w1.alloc (.cells #[.slice none 0 0] 32)).alloc (.map #[] 0)).alloc (.cells #[.map (some (D + 1))] 40) = w3 at *
  have p1 := blk_alloc (blk_alloc (blk_new w3 (.cells #[.slice none 0 0] 37)) (.cells #[.int .i64 6, .int .i64 ((n : Int) + 1), .string ⟨#[]⟩, .slice (some ⟨b, 0, none⟩) 1 c] 26)) (.cells #[.int .i64 (m : Int)] 3)
  have p2 := blk_alloc (blk_new (w3.alloc (.cells #[.slice none 0 0] 37)) (.cells #[.int .i64 6, .int .i64 ((n : Int) + 1), .string ⟨#[]⟩, .slice (some ⟨b, 0, none⟩) 1 c] 26)) (.cells #[.int .i64 (m : Int)] 3)
  have p3 := blk_new ((w3.alloc (.cells #[.slice none 0 0] 37)).alloc (.cells #[.int .i64 6, .int .i64 ((n : Int) + 1), .string ⟨#[]⟩, .slice (some ⟨b, 0, none⟩) 1 c] 26)) (.cells #[.int .i64 (m : Int)] 3)
  have g4 : w.grownBy (((w3.alloc (.cells #[.slice none 0 0] 37)).alloc (.cells #[.int .i64 6, .int .i64 ((n : Int) + 1), .string ⟨#[]⟩, .slice (some ⟨b, 0, none⟩) 1 c] 26)).alloc (.cells #[.int .i64 (m : Int)] 3)) none := gr_alloc (gr_alloc (gr_alloc g3 _) _) _
  have q1 := blk_alloc (blk_alloc (blk_alloc k1' (.cells #[.slice none 0 0] 37)) (.cells #[.int .i64 6, .int .i64 ((n : Int) + 1), .string ⟨#[]⟩, .slice (some ⟨b, 0, none⟩) 1 c] 26)) (.cells #[.int .i64 (m : Int)] 3)
  have q2 := blk_alloc (blk_alloc (blk_alloc k2' (.cells #[.slice none 0 0] 37)) (.cells #[.int .i64 6, .int .i64 ((n : Int) + 1), .string ⟨#[]⟩, .slice (some ⟨b, 0, none⟩) 1 c] 26)) (.cells #[.int .i64 (m : Int)] 3)
  have q3 := blk_alloc (blk_alloc (blk_alloc k3 (.cells #[.slice none 0 0] 37)) (.cells #[.int .i64 6, .int .i64 ((n : Int) + 1), .string ⟨#[]⟩, .slice (some ⟨b, 0, none⟩) 1 c] 26)) (.cells #[.int .i64 (m : Int)] 3)
  have hs4 : (((w3.alloc (.cells #[.slice none 0 0] 37)).alloc (.cells #[.int .i64 6, .int .i64 ((n : Int) + 1), .string ⟨#[]⟩, .slice (some ⟨b, 0, none⟩) 1 c] 26)).alloc (.cells #[.int .i64 (m : Int)] 3)).heap.size = D + 6 := by simp [e3]
  simp only [World.size_alloc, e3] at p1 p2 p3
  generalize (((w3.alloc (.cells #[.slice none 0 0] 37)).alloc (.cells #[.int .i64 6, .int .i64 ((n : Int) + 1), .string ⟨#[]⟩, .slice (some ⟨b, 0, none⟩) 1 c] 26)).alloc (.cells #[.int .i64 (m : Int)] 3)) = W0 at *
  clear c0 c1 c2 c3 k1' k2' k3 g3 e3 HS HBT HG hmm
  gi_wp2
  have HSQ := HOF.out m (by omega) (D + 4) (D + 5) (D + 3) W0 g4 p2 p3 p1
  clear HOF p1 p2 p3 k1 k2
  refine wpIn_rangeFunc_ownG hro (by omega) (gf := 17) (lb := #[.pointer (some ⟨D + 4, 0, none⟩), .pointer (some ⟨D + 5, 0, none⟩), .pointer (some ⟨D + 3, 0, none⟩)]) rfl trivial (enters_of Tryd.func17 (by kernel_rfl) rfl)
    HSQ KpT.trans
    (fun W l o o' _ ho hc _ => ⟨by simp, fun g cs t fr hg _ => ?hput⟩) (Below.refl _ _) (fun _ => rfl)
    (fun xs W => ((∃ v, W.heap[D]? = some (.cells #[v] 32 (0, 0)) ∧ OwI (D + 6) W v (ddI (m : Int) x xs)) ∧ W.heap[D + 2]? = some (.cells #[.map (some (D + 1))] 40 (0, 0)) ∧ MapI W (D + 1) (ddI (m : Int) x xs) ∧ D + 6 ≤ W.heap.size) ∧ Below w.heap.size w W)
    (fun _ _ _ => False)
    (OwnFrom.and (fun s A B row hs hg hr => ?hown) (ownFrom_below (Nat.le_refl _) (by omega)))
    (fun _ _ _ _ _ hs _ _ => hs)
    ⟨⟨⟨_, q1, OwI.nil _ _⟩, q3, ?hmap, Nat.le_of_eq hs4.symm⟩, below_of_gr g4⟩
    (fun o => { tmps := #[.slice none 0 0, (.agg #[.int .i64 6, .int .i64 ((n : Int) + 1), .string ⟨#[]⟩, .slice (some ⟨b, 0, none⟩) 1 c]), undef, .pointer (some ⟨w.heap.size, 0, none⟩), .slice none 0 0, .int .i64 0, .int .i64 (m : Int), .int .i64 0, .pointer (some ⟨D, 0, none⟩), .pointer (some ⟨D + 2, 0, none⟩), undef, .int .i64 (nrm (m : Int) x (o : Int)), undef, undef, (.tuple #[.int .i64 (m : Int), .int .i64 0]), .slice none 0 0, (.agg #[.int .i64 6, .int .i64 ((n : Int) + 1), .string ⟨#[]⟩, .slice (some ⟨b, 0, none⟩) 1 c]), (.tuple #[.int .i64 (m : Int), .int .i64 0]), .int .i64 (m : Int), .int .i64 0, .int .i64 0, .bool false, undef, .map (some (D + 1)), .slice none 0 0, (.agg #[.int .i64 6, .int .i64 ((n : Int) + 1), .string ⟨#[]⟩, .slice (some ⟨b, 0, none⟩) 1 c]), .int .i64 (m : Int), .func (.func 17) #[] #[.pointer (some ⟨D + 4, 0, none⟩), .pointer (some ⟨D + 5, 0, none⟩), .pointer (some ⟨D + 3, 0, none⟩)], .int .i64 (o : Int), .int .i64 (nrm (m : Int) x (o : Int)), undef, undef, undef, undef, undef, undef, undef, undef, undef, undef, undef, undef, undef, undef, undef, undef], defers := [] }) ?assign ?body ?done ?stop
  case hput => exact (World.putObj_heap_other (fun e => by rw [← e, hg] at ho; cases ho; cases hc)).trans hg
  case hmap =>
    exact ⟨0, .map [], by simp, ⟨#[], 0, q2, ⟨by simp, stamped_empty 0, by simp⟩, Nat.le_refl _, rfl⟩, fun z _ => by simp [Maps.has, ddI]⟩
  case hown =>
    obtain ⟨⟨v, h1, h2⟩, h3, ⟨nn, DD, hn1, hn2, hn3⟩, h4⟩ := hs
    have hr' : ∀ r, row = some r → ∃ o : Obj, A.heap[r]? = some o ∧ o.isCells = false := fun r e => (hr r e).2
    exact ⟨⟨v, cells_own h1 hg hr', h2.keep fun g c fz _ hh => cells_own hh hg hr'⟩, cells_own h3 hg hr', ⟨nn, DD, hn1, hn2.kept hg (fun e => by have := (hr (D + 1) e.symm).1; omega), hn3⟩, Nat.le_trans h4 hg.size⟩
  case assign =>
    intro l o W K hK
    gi_wp2
    exact hK
  case stop =>
    rintro E c pre W _ _ h _
    exact h.elim
  case body =>
    rintro l pre o W ⟨⟨⟨v, hD, hO⟩, hM, ⟨nn, DD, hn1, hn2, hn3⟩, h4⟩, hBel⟩ hlen
    obtain ⟨A, cc, rfl⟩ := hO.form
    obtain ⟨d0, f0⟩ := cell1 hD
    obtain ⟨d1, _⟩ := cell1 hM
    have hdl := ddI_len (m : Int) x pre
    have hsn := ddI_snoc (m : Int) x pre o
    obtain ⟨z, hz⟩ : ∃ z, z = nrm (m : Int) x (o : Int) := ⟨_, rfl⟩
    rw [← hz] at hsn ⊢
    have hzr : (Lit.int .i64 z).wf = true := by
      have hb : 0 ≤ z ∧ z ≤ 4096 := by
        rw [hz]
        unfold nrm
        split
        · omega
        · have h2 := Int.emod_nonneg (o : Int) (show x ≠ 0 by omega)
          have h3 := Int.emod_lt_of_pos (o : Int) (show 0 < x by omega)
          omega
      have h5 : IntKind.i64.min = -9223372036854775808 := rfl
      have h6 : IntKind.i64.max = 9223372036854775807 := rfl
      simp [Lit.wf]
      omega
    have hkey : keyOf Tryd.prog 3 (.int .i64 z) = some (.int .i64 z) := Maps.keyOf_int_mk (q := .i64) (by kernel_rfl) hzr
    have hh := hn3 z hzr
    have hBs := hBel.size
    have hDs := lt_of_heap hD
    have HD := Lib.hid hD
    have HO := Lib.hid hO
    have HM := Lib.hid hM
    have HMP := Lib.hid hn2
    have HHAS := Lib.hid hn3
    have HBel := Lib.hid hBel
    have HSN := Lib.hid hsn
    have HKEY := Lib.hid hkey
    generalize hL : ddI (m : Int) x pre = L at *
    clear hD hO hM hn2 hn3 hBel hz HSQ q1 q2 q3 g4 hL hsn hkey hzr
    by_cases hzo : z ∈ L
    · have e1 : Maps.has DD (.int .i64 z) = true := by rw [hh]; exact decide_eq_true hzo
      gi_wp2_with (gi_at_lookup; go_must (refine wpListIn_lookup_own_unit _ rfl _ _ 40 rfl 3 44 keyInt Tryd.underlying40 (Tryd.zeroValue44 _) (D + 1) nn DD rfl HMP.out _ _ rfl HKEY.out ?_; rw [e1]))
      refine ⟨(KeepsOthers.alloc W _).from _, KpT.of_gr (World.grownBy_alloc W _ none), ⟨⟨_, blk_alloc HD.out _, ?_⟩, blk_alloc HM.out _, ⟨nn, DD, ?_, HMP.out.alloc _, ?_⟩, by rw [World.size_alloc]; omega⟩, HBel.out.alloc hBs _⟩
      · rw [HSN.out, if_pos hzo]; exact HO.out.alloc _
      · rw [HSN.out, if_pos hzo]; exact hn1
      · rw [HSN.out, if_pos hzo]; exact HHAS.out
    · have e1 : Maps.has DD (.int .i64 z) = false := by rw [hh]; exact decide_eq_false hzo
      obtain ⟨d2, -⟩ := cell1 (blk_alloc HM.out (.cells #[] 44))
      gi_wp2_with (first | (gi_at_lookup; go_must (refine wpListIn_lookup_own_unit _ rfl _ _ 40 rfl 3 44 keyInt Tryd.underlying40 (Tryd.zeroValue44 _) (D + 1) nn DD rfl HMP.out _ _ rfl HKEY.out ?_; rw [e1])) | (gi_at_mapUpdate; go_must (refine wpListIn_mapUpdate_own _ rfl _ _ _ 40 rfl 3 44 keyInt Tryd.underlying40 unitElem (D + 1) nn DD rfl (HMP.out.alloc _) (by unfold maxLen; omega) _ _ _ rfl rfl HKEY.out (.agg []) [] unitElem_mk ?_; intro w2 hown2 hg2; have hd2 := (hg2.block D (lt_of_heap (blk_alloc HD.out _)) (fun e => by injection e with e; omega)).trans (blk_alloc HD.out _); obtain ⟨y0, y1⟩ := cell1 hd2; have HD2 := Lib.hid hd2; have HW2 := Lib.hid hown2; have HG2 := Lib.hid hg2; have HO2 := Lib.hid (HO.out.mapd hg2 (by omega)); have hs2 := hg2.size; rw [World.size_alloc] at hs2; clear hown2 hg2 hd2)) | (gi_at_builtin; go_must (refine appG _ rfl (.tmp 41) (.tmp 43) rfl (D + 6) _ L rfl (HO2.out.alloc _) w2.heap.size z _ rfl (heap_alloc_new w2 (.cells #[.int .i64 z] 3)) (by omega) (by simp only [World.size_alloc]; omega) ?_; intro v3 w3 ho3 hg3; have hd3 := (hg3.block D (lt_of_heap (blk_alloc HD2.out _)) (fun e => HO2.out.ne (by omega) e.symm)).trans (blk_alloc HD2.out _); obtain ⟨x0, x1⟩ := cell1 hd3; have HD3 := Lib.hid hd3; obtain ⟨A3, c3, rfl⟩ := ho3.form; have HO3 := Lib.hid ho3; have HG3 := Lib.hid hg3; clear ho3 hg3 hd3)))
      have hm2 := (HG2.out.block (D + 2) (lt_of_heap (blk_alloc HM.out _)) (fun e => by injection e with e; omega)).trans (blk_alloc HM.out _)
      have hm3 := (HG3.out.block (D + 2) (lt_of_heap (blk_alloc hm2 _)) (fun e => HO2.out.ne (by omega) e.symm)).trans (blk_alloc hm2 _)
      have hs3 := HG3.out.size
      rw [World.size_alloc] at hs3
      have hsz : ∀ (V : World) (a : Addr) (u : Value), (V.setCell a u).heap.size = V.heap.size := fun V a u => by simp [World.setCell]
      have hb2 : Below w.heap.size w w2 := (HBel.out.alloc hBs _).grown HG2.out (by rw [World.size_alloc]; omega) (fun k hk => by injection hk with hk; omega)
      refine ⟨(((KeepsOthers.alloc W _).from _).trans (KeepsFrom.of_grownBy HG2.out (fun j e => by injection e with e; omega))).trans (app_others HO2.out HG3.out), (map_kp HMP.out HG2.out).trans (app_kp HO2.out HG3.out HD2.out (by omega) (by omega) (by omega)), ⟨⟨_, set1 HD3.out _, ?_⟩, off1 hm3 (by omega) _, ⟨nn + 1, _, ?_, ((HW2.out.alloc _).kept HG3.out (fun e => HO2.out.ne (g := D + 1) (by omega) e.symm)).setCell (by show D + 1 ≠ D; omega) _, ?_⟩, by rw [hsz]; omega⟩, app_below hb2 HO2.out HG3.out (by omega) (by omega)⟩
      · rw [HSN.out, if_neg hzo]
        have h9 := HO3.out
        rw [List.length_append] at h9
        exact h9.off (by omega)
      · rw [HSN.out, if_neg hzo, List.length_append]; simp; exact hn1
      · rw [HSN.out, if_neg hzo]
        intro y hy
        by_cases hyz : y = z
        · subst hyz
          rw [Maps.has_put_same HMP.out.isMap (k := .int .i64 y) trivial]
          simp
        · rw [Maps.has_put_other (fun e => hyz (by injection e)), HHAS.out y hy]
          simp [hyz]
  case done =>
    rintro E ys W hE rfl ⟨⟨⟨v, hD, hO⟩, hM, -, h4⟩, hBel⟩ hK
    obtain ⟨A, cc, rfl⟩ := hO.form
    obtain ⟨d0, -⟩ := cell1 hD
    obtain ⟨L, hL⟩ : ∃ L, L = ddI (m : Int) x (List.range (m + 1)) := ⟨_, rfl⟩
    rw [← hL] at hO d0
    have HL := Lib.hid hL
    have HO := Lib.hid hO
    have HBel := Lib.hid hBel
    have HK := Lib.hid hK
    clear hL hD hO hM h4 hBel hK HSQ q1 q2 q3 g4
    gi_wp2
    refine ⟨by simp, .inl ⟨_, _, rfl, run_takeDeferred HK.out, ?_⟩⟩
    have hgr := gr_of_below (HBel.out.trans (belowK_b (w := w) (Nat.le_refl _) W E _ (.deferred none) (by omega) HK.out rfl rfl))
    have hO2 : OwI (D + 6) (W.putObj E (.deferred none)) (.slice A L.length cc) L := HO.out.keep fun g c fz _ hh => cells_own hh (grownBy_putObj' W E (.deferred none)) (fun r e => by cases e; exact ⟨_, HK.out, rfl⟩)
    refine ⟨.tuple #[.slice A L.length cc, .int .i64 0], by simp [results, Tryd.results7, go_sem], ⟨⟨_, rfl, ?_⟩, hgr⟩⟩
    rw [← HL.out]
    exact ⟨hO2.1, hO2.2.imp id fun ⟨g, cap, cur, e, hb, r⟩ => ⟨g, cap, cur, e, by omega, r⟩⟩

end Go.Proofs.YtjfbkogjgjmndaaDoor
