/- slices.Insert of one run. -/
import Derived.Test.YtpgefmhjhiemkaaJc
namespace Go.Proofs.Ytpgefmhjhiemkaa
open Go.RowKit
/-- What is answered where one row of runs becomes another. -/
def InsIs (W : World) (v : Value) (S' : List (Int × Int)) (e : Ending) (w' : World) : Prop := ∃ v', e = .returned v' ∧ OwS 0 w' v' S' ∧ W.grownBy w' v.ownBlock ∧ ∀ g, v'.ownBlock = some g → v.ownBlock = some g ∨ W.heap.size ≤ g
theorem spl_ins {α : Type} {A B Z p R : List α} {a : Nat} (hR : R = A ++ B ++ Z) (hA : A.length = a) (hp : p.length = 2) (hZ : 2 ≤ Z.length) :
    (R.take (a + 2) ++ B ++ R.drop (a + 2 + B.length)).take a ++ p ++ (R.take (a + 2) ++ B ++ R.drop (a + 2 + B.length)).drop (a + p.length) = A ++ p ++ B ++ Z.drop 2 := by
  have hl : R.length = a + B.length + Z.length := by rw [hR, List.length_append, List.length_append, hA]
  have hT : (R.take (a + 2)).length = a + 2 := by rw [List.length_take]; omega
  have e1 : (R.take (a + 2) ++ B ++ R.drop (a + 2 + B.length)).take a = A := by
    rw [List.append_assoc, List.take_append_of_le_length (by omega), List.take_take, Nat.min_eq_left (by omega), hR, List.append_assoc, ← hA, List.take_left']
    rfl
  have e2 : (R.take (a + 2) ++ B ++ R.drop (a + 2 + B.length)).drop (a + p.length) = B ++ Z.drop 2 := by
    rw [hp, List.append_assoc, List.drop_left' hT]
    congr 1
    rw [hR, List.append_assoc, List.drop_append, List.drop_append]
    rw [List.drop_eq_nil_of_le (by omega), List.nil_append, List.drop_eq_nil_of_le (by omega), List.nil_append, hA]
    congr 1
    omega
  rw [e1, e2]
  simp
theorem flat_take2 (S : List (Int × Int)) (o : Nat) (ho : o ≤ S.length) : (flatC spC S).take (o * 2) = flatC spC (S.take o) := flat_take spC_size S o ho
theorem flat_drop2 (S : List (Int × Int)) (o : Nat) (ho : o ≤ S.length) : (flatC spC S).drop (o * 2) = flatC spC (S.drop o) := flat_drop spC_size S o ho
theorem flat_split (S : List (Int × Int)) (i : Nat) : flatC spC S = flatC spC (S.take i) ++ flatC spC (S.drop i) := by rw [← flat_app, List.take_append_drop]
theorem flat_ins (S : List (Int × Int)) (i : Nat) (p : Int × Int) (j : Nat) : flatC spC (S.take i ++ [p] ++ S.drop j) = flatC spC (S.take i) ++ (spC p).toList ++ flatC spC (S.drop j) := by
  rw [flat_app, flat_app, show flatC spC [p] = (spC p).toList by simp [flatC]]
theorem box_src {w : World} {b : Nat} {p : Int × Int} (hb : w.heap[b]? = some (.cells (spC p) 47 (0, 0))) : ∀ (j : Nat) (u : Value), (spC p).toList[j]? = some u → w.cell? ((⟨b, 0, none⟩ : Addr).add j) = some u := fun j u hu => by
  rw [add_none, Nat.zero_add, cell_of_row _ _ _ _ _ _ hb, ← Array.getElem?_toList]
  exact hu
set_option maxRecDepth 100000 in
set_option maxHeartbeats 4000000 in
theorem insert_end (v : Value) (b n : Nat) (S : List (Int × Int)) (p : Int × Int) (W : World) (h : OwS 0 W v S) (hn : n = S.length) (hl : n ≤ 1000001) (hb : W.heap[b]? = some (.cells (spC p) 47 (0, 0))) :
    Calls Try.prog 42 #[v, .int .i64 n, .slice (some ⟨b, 0, none⟩) 1 1] W (InsIs W v (S ++ [p])) := by
  obtain ⟨A, c, rfl, hc, _, _⟩ := h.spn
  rw [← hn] at h hc ⊢
  have HO := Lib.hid h
  have HB := Lib.hid hb
  have HN := Lib.hid hn
  obtain ⟨Q2, hQ2⟩ : ∃ Q2, (if c = n then A else A.map (·.add (n * 2))) = Q2 := ⟨_, rfl⟩
  clear h hb hn
  go_enter Try.func42, Try.ntmps42
  go_wp2_with (at_builtin; go_must (refine app_spn2 rfl (.tmp 23) (.tmp 24) rfl 0 (.slice A n c) S p rfl HO.out b (0, 0) rfl HB.out (by have := HN.out; omega) (Nat.zero_le _) ?_; intro v3 w3 ho3 hg3 hn3; have HO3 := Lib.hid ho3; have HG3 := Lib.hid hg3; have HN3 := Lib.hid hn3; clear ho3 hg3 hn3))
  go_ret
  exact ⟨_, rfl, HO3.out, HG3.out, HN3.out⟩
set_option maxRecDepth 100000 in
set_option maxHeartbeats 4000000 in
theorem insert_room (g c b i n : Nat) (S : List (Int × Int)) (p : Int × Int) (W : World) (h : OwS 0 W (.slice (some ⟨g, 0, none⟩) n c) S) (hl : n ≤ 1000001) (hi : i < n) (hc : n + 1 ≤ c) (hb : W.heap[b]? = some (.cells (spC p) 47 (0, 0))) (hbg : b ≠ g) :
    Calls Try.prog 42 #[.slice (some ⟨g, 0, none⟩) n c, .int .i64 i, .slice (some ⟨b, 0, none⟩) 1 1] W (InsIs W (.slice (some ⟨g, 0, none⟩) n c) (S.take i ++ [p] ++ S.drop i)) := by
  obtain ⟨Z, hR, hZ, hn, hnc, hcm, _⟩ := h.row
  have hZ2 : 2 ≤ Z.length := by omega
  obtain ⟨R, hRe⟩ : ∃ R, R = flatC spC S ++ Z := ⟨_, rfl⟩
  rw [← hRe] at hR
  have hRl : R.length = c * 2 := by rw [hRe, List.length_append, flat_len spC_size, hZ]; omega
  have hcm2 : (c : Int) ≤ 9223372036854775807 := by have := hcm; unfold maxLen at this; omega
  have HR := Lib.hid hR
  have HB := Lib.hid hb
  have HN := Lib.hid hn
  have HRE := Lib.hid hRe
  have hov := fun (la ca lb cb : Nat) => over_apart (la := la) (ca := ca) (lb := lb) (cb := cb) (o := (i + 1) * 2) hb hR hbg (fun e => by rw [e] at hRl; simp at hRl; omega)
  have hgl := lt_of_heap hR
  have hbl := lt_of_heap hb
  have hb1 : ¬ c = i + 1 := by omega
  have hb2 : ¬ c = i := by omega
  clear h hR hb hn hRe hZ hnc hcm hZ2
  go_enter Try.func42, Try.ntmps42
  go_wp2_with (simp only [hov])
  clear hov
  have w1 : IntKind.i64.wrap ((i : Int) + 1) = (i : Int) + 1 := i64w (by omega) (by omega)
  have w2 : (0 : Int) ≤ (i : Int) + 1 := by omega
  have w3 : ((i : Int) + 1).toNat = i + 1 := by omega
  have w4 : (i : Int) + 1 ≤ (n : Int) + 1 := by omega
  have w5 : (i : Int) ≤ (n : Int) + 1 := by omega
  go_still_tail 8, (by kernel_rfl)
  change wpList _ _ _ _ _ W.drew
  clear w1 w2 w3 w4 w5
  have hD : (flatC spC (S.drop i)).length = (n - i) * 2 := by rw [flat_len spC_size, List.length_drop, HN.out]
  have hsrc : flatC spC (S.drop i) = (R.drop (i * 2)).take ((n - i) * 2) := by
    have hN := HN.out
    rw [HRE.out, List.drop_append_of_le_length (by rw [flat_len spC_size]; omega), flat_drop2 S i (by omega), List.take_append_of_le_length (by rw [hD]; exact Nat.le_refl _), ← hD, List.take_length]
  refine wpList_copy_spn rfl (.tmp 73) (.tmp 76) rfl g ((i + 1) * 2) _ _ _ _ ⟨g, i * 2, none⟩ rfl rfl R (flatC spC (S.drop i)) HR.out ?_ (row_src (show W.drew.heap[g]? = _ from HR.out) hsrc) (by rw [hD, hRl]; omega) (flat_one spC_one _) ?_
  · rw [hD, show (n + 1 - i).min (n - i) = n - i from Nat.min_eq_right (by omega)]
  · intro w3 HR3 HG3
    obtain ⟨R1, hR1⟩ : ∃ R1, R1 = R.take ((i + 1) * 2) ++ flatC spC (S.drop i) ++ R.drop ((i + 1) * 2 + (flatC spC (S.drop i)).length) := ⟨_, rfl⟩
    rw [← hR1] at HR3
    have HR1 := Lib.hid hR1
    have hR1l : R1.length = c * 2 := by
      rw [hR1, List.length_append, List.length_append, List.length_take, List.length_drop, hD, hRl]
      omega
    have HB3 := Lib.hid (((HG3.out.block b hbl (fun e => hbg (by injection e))).trans (show W.drew.heap[b]? = W.heap[b]? from rfl)).trans HB.out)
    clear hR1 hsrc hD
    have hs2 := box_src HB3.out
    have hn2 : (spC p).toList.length = Nat.min 1 (n + 1 - i) * 2 := by
      rw [show Nat.min 1 (n + 1 - i) = 1 from Nat.min_eq_left (by omega)]
      rfl
    have hf2 : i * 2 + (spC p).toList.length ≤ R1.length := by
      show i * 2 + 2 ≤ R1.length
      omega
    go_wp2_with ((refine wpList_copy_spn rfl (.tmp 80) (.tmp 81) rfl g (i * 2) _ _ _ _ ⟨b, 0, none⟩ rfl rfl R1 (spC p).toList HR3.out hn2 hs2 hf2 (spC_one p) ?_); intro w4 HR4 HG4; clear hn2 hs2 hf2)
    go_ret
    have hN := HN.out
    have e := HR4.out
    rw [HR1.out, show (i + 1) * 2 = i * 2 + 2 by omega, spl_ins (A := flatC spC (S.take i)) (B := flatC spC (S.drop i)) (Z := Z) (by rw [HRE.out, ← flat_split]) (by rw [flat_len spC_size, List.length_take, Nat.min_eq_left (by omega)]) rfl (by have := HRE.out; have hh := congrArg List.length this; rw [hRl, List.length_append, flat_len spC_size] at hh; omega), ← flat_ins] at e
    have hl' : (S.take i ++ [p] ++ S.drop i).length = n + 1 := by simp; omega
    have hZ : Z.length = (c - n) * 2 := by have hh := congrArg List.length HRE.out; rw [hRl, List.length_append, flat_len spC_size, ← hN] at hh; omega
    refine ⟨.slice (some ⟨g, 0, none⟩) (n + 1) c, rfl, ?_, grownBy_trans (grownBy_trans (gr_weak (grownBy_refl W none).gr_drew) HG3.out) HG4.out, fun k hk => .inl hk⟩
    rw [← hl']
    exact OwS.of_row e (by rw [hl', List.length_drop, hZ]; omega) (by rw [hl']; exact hc) (by unfold maxLen; omega) (Nat.zero_le _)

theorem spl_two {α : Type} {A B p R : List α} {a : Nat} (hR : R.take a = A) (hA : A.length = a) (hp : p.length = 2) :
    (R.take a ++ p ++ R.drop (a + p.length)).take (a + 2) ++ B ++ (R.take a ++ p ++ R.drop (a + p.length)).drop (a + 2 + B.length) = A ++ p ++ B ++ R.drop (a + 2 + B.length) := by
  rw [hR, hp]
  have hAp : (A ++ p).length = a + 2 := by rw [List.length_append, hA, hp]
  rw [List.take_left' hAp, List.drop_append, List.drop_eq_nil_of_le (by omega), List.nil_append, hAp, List.drop_drop]
  congr 2
  omega
set_option maxRecDepth 100000 in
set_option maxHeartbeats 4000000 in
theorem insert_grow (g c b i n : Nat) (S : List (Int × Int)) (p : Int × Int) (W : World) (h : OwS 0 W (.slice (some ⟨g, 0, none⟩) n c) S) (hl : n ≤ 1000001) (hi : i < n) (hc : ¬ n + 1 ≤ c) (hb : W.heap[b]? = some (.cells (spC p) 47 (0, 0))) :
    Calls Try.prog 42 #[.slice (some ⟨g, 0, none⟩) n c, .int .i64 i, .slice (some ⟨b, 0, none⟩) 1 1] W (InsIs W (.slice (some ⟨g, 0, none⟩) n c) (S.take i ++ [p] ++ S.drop i)) := by
  obtain ⟨Z, hR, hZ, hn, hnc, hcm, _⟩ := h.row
  obtain rfl : c = n := by omega
  obtain ⟨i0, hi0, hz0, hz1, hz2⟩ := info_parts infoSpan
  have hD : (flatC spC (S.drop i)).length = (c - i) * 2 := by rw [flat_len spC_size, List.length_drop, hn]
  have hA : (flatC spC (S.take i)).length = i * 2 := by rw [flat_len spC_size, List.length_take, Nat.min_eq_left (by omega)]
  have hsrcA := row_src hR (k := 0) (m := i * 2) (cs := flatC spC (S.take i)) (by rw [List.drop_zero, List.take_append_of_le_length (by rw [flat_len spC_size]; omega), flat_take2 S i (by omega)])
  have hsrcD := row_src hR (k := i * 2) (m := (c - i) * 2) (cs := flatC spC (S.drop i)) (by rw [List.drop_append_of_le_length (by rw [flat_len spC_size]; omega), flat_drop2 S i (by omega), List.take_append_of_le_length (by rw [hD]; exact Nat.le_refl _), ← hD, List.take_length])
  have hold : (Builtin.firstCells i0.size i (.slice (some ⟨g, 0, none⟩) i c)).run Try.prog W.drew = .ok (flatC spC (S.take i)).toArray W.drew := by
    rw [hz1]
    exact run_firstCells_some W.drew 2 i ⟨g, 0, none⟩ i c _ (by rw [hA]) hsrcA
  have hrz : ∀ ty, (Builtin.append_ #[42, 3] ty #[.slice (some ⟨g, 0, none⟩) i c, .int .i64 ((c : Int) + 1 - (i : Int))]).run Try.prog W = .ok (.slice (some ⟨W.heap.size, 0, none⟩) (c + 1) (grownCap W (c + 1) c 47)) (W.drew.alloc (.cells ((flatC spC (S.take i)).toArray ++ Builtin.zeroCells (Value.agg #[.int .i64 0, .int .i64 0]).cells (c + 1 - i) ++ Builtin.zeroCells (Value.agg #[.int .i64 0, .int .i64 0]).cells (grownCap W (c + 1) c 47 - (c + 1))) 47)) := fun ty => by
    have h := Lib.run_append_grow_zeros (P := Try.prog) W 42 3 ty 47 i0 _ .i64 .i64 Try.underlying42 Try.underlying3 hi0 hz0 (some ⟨g, 0, none⟩) i c _ hold (c + 1 - i) (by omega) (by rw [hz1]; omega) (by omega) (by omega) (by rw [hz2]; omega) (by rw [hz2, show i + (c + 1 - i) = c + 1 by omega]; exact growslice_fits (by omega) (by omega))
    rw [show i + (c + 1 - i) = c + 1 by omega] at h
    rw [show (c : Int) + 1 - (i : Int) = ((c + 1 - i : Nat) : Int) by omega]
    exact h
  obtain ⟨G, hG⟩ : ∃ G, G = grownCap W (c + 1) c 47 := ⟨_, rfl⟩
  have hGn : c + 1 ≤ G := by rw [hG]; exact grownCap_ge W _ _ _
  have hGm : G ≤ maxLen := by rw [hG]; exact grownCap_le_maxLen W _ _ _ (by unfold maxLen; omega)
  obtain ⟨ROW, hROW⟩ : ∃ ROW : List Value, ROW.toArray = (flatC spC (S.take i)).toArray ++ Builtin.zeroCells (Value.agg #[.int .i64 0, .int .i64 0]).cells (c + 1 - i) ++ Builtin.zeroCells (Value.agg #[.int .i64 0, .int .i64 0]).cells (G - (c + 1)) := ⟨_, Array.toArray_toList⟩
  rw [← hG, ← hROW] at hrz
  have hRT : ROW.take (i * 2) = flatC spC (S.take i) := by
    have h1 : ROW = ((flatC spC (S.take i)).toArray ++ Builtin.zeroCells (Value.agg #[.int .i64 0, .int .i64 0]).cells (c + 1 - i) ++ Builtin.zeroCells (Value.agg #[.int .i64 0, .int .i64 0]).cells (G - (c + 1))).toList := by rw [← hROW]
    rw [h1, Array.toList_append, Array.toList_append, List.append_assoc, ← hA, List.take_left']
    rfl
  have hRl : ROW.length = G * 2 := by
    have h1 : ROW.toArray.size = ROW.length := List.size_toArray
    rw [← h1, hROW]
    simp [size_zeroCells, hA, Value.cells]
    omega
  obtain ⟨W1, hW1⟩ : ∃ W1, W1 = W.drew.alloc (.cells ROW.toArray 47) := ⟨_, rfl⟩
  rw [← hW1] at hrz
  have hgl := lt_of_heap hR
  have hbl := lt_of_heap hb
  have HG1 := Lib.hid (show W.grownBy W1 none by rw [hW1]; exact gr_alloc (grownBy_refl W none).gr_drew _)
  have HN1 := Lib.hid (show W1.heap[W.heap.size]? = some (.cells ROW.toArray 47 (0, 0)) by rw [hW1]; exact heap_alloc_new W.drew _)
  have hz := HG1.out.size
  have hlt1 := lt_of_heap HN1.out
  have HB1 := Lib.hid ((HG1.out.block b hbl (by simp)).trans hb)
  have HS1 := Lib.hid ((HG1.out.block g hgl (by simp)).trans hR)
  have HRT := Lib.hid hRT
  have HRL := Lib.hid hRl
  have HD := Lib.hid hD
  have HA := Lib.hid hA
  have HN := Lib.hid hn
  have hGm2 : (G : Int) ≤ 9223372036854775807 := by have := hGm; unfold maxLen at this; omega
  have hb1 : ¬ G = i + 1 := by omega
  have hb2 : ¬ G = i := by omega
  have hb3 : ¬ c = i := by omega
  obtain ⟨q, hq⟩ : ∃ q, q = W.heap.size := ⟨_, rfl⟩
  rw [← hq] at hrz HN1
  have HQ := Lib.hid hq
  clear h hR hb hn hZ hnc hcm hi0 hz0 hz1 hz2 hD hA hsrcA hsrcD hold hG hROW hRT hRl hW1 hq hc
  have hs2 := box_src HB1.out
  have hn2 : (spC p).toList.length = Nat.min 1 (c + 1 - i) * 2 := by
    rw [show Nat.min 1 (c + 1 - i) = 1 from Nat.min_eq_left (by omega)]
    rfl
  have hf2 : i * 2 + (spC p).toList.length ≤ ROW.length := by
    rw [HRL.out]
    show i * 2 + 2 ≤ _
    omega
  go_enter Try.func42, Try.ntmps42
  go_wp2_with (first
    | (at_builtin; go_must (refine Lib.wpList_append_run _ rfl _ _ 42 3 rfl _ _ rfl rfl _ _ (hrz _) ?_; clear hrz))
    | ((refine wpList_copy_spn rfl (.tmp 43) (.tmp 44) rfl q (i * 2) _ _ _ _ ⟨b, 0, none⟩ rfl rfl ROW (spC p).toList HN1.out hn2 hs2 hf2 (spC_one p) ?_); intro w3 HR3 HG3; clear hn2 hs2 hf2))
  have hqg : g ≠ q := by have := HQ.out; omega
  have HS3 := Lib.hid ((HG3.out.block g (by omega) (fun e => hqg (by injection e))).trans HS1.out)
  obtain ⟨R1, hR1⟩ : ∃ R1, R1 = ROW.take (i * 2) ++ (spC p).toList ++ ROW.drop (i * 2 + (spC p).toList.length) := ⟨_, rfl⟩
  rw [← hR1] at HR3
  have HR1 := Lib.hid hR1
  have hR1l : R1.length = G * 2 := by
    rw [hR1, List.length_append, List.length_append, List.length_take, List.length_drop, HRL.out, show (spC p).toList.length = 2 from rfl]
    omega
  have w1 : IntKind.i64.wrap ((i : Int) + 1) = (i : Int) + 1 := i64w (by omega) (by omega)
  have w2 : (0 : Int) ≤ (i : Int) + 1 := by omega
  have w3' : ((i : Int) + 1).toNat = i + 1 := by omega
  have w4 : (i : Int) + 1 ≤ (c : Int) + 1 := by omega
  have w5 : (i : Int) ≤ (c : Int) := by omega
  have hD := HD.out
  have hsrc : flatC spC (S.drop i) = ((flatC spC S ++ Z).drop (i * 2)).take ((c - i) * 2) := by
    have hN := HN.out
    rw [List.drop_append_of_le_length (by rw [flat_len spC_size]; omega), flat_drop2 S i (by omega), List.take_append_of_le_length (by rw [hD]; exact Nat.le_refl _), ← hD, List.take_length]
  clear hR1
  go_still_tail 8, (by kernel_rfl)
  change wpList _ _ _ _ _ w3.drew
  clear w1 w2 w3' w4 w5
  refine wpList_copy_spn rfl (.tmp 50) (.tmp 53) rfl q ((i + 1) * 2) _ _ _ _ ⟨g, i * 2, none⟩ rfl rfl R1 (flatC spC (S.drop i)) HR3.out ?_ (row_src (show w3.drew.heap[g]? = _ from HS3.out) hsrc) (by rw [hD, hR1l]; omega) (flat_one spC_one _) ?_
  · rw [hD, show (c - i).min (c - i) = c - i from Nat.min_self _]
  · intro w4 HR4 HG4
    clear hsrc hD
    go_wp2_with fail
    go_ret
    have hN := HN.out
    have e := HR4.out
    rw [HR1.out, show (i + 1) * 2 = i * 2 + 2 by omega, spl_two HRT.out HA.out rfl, ← flat_ins] at e
    have hl' : (S.take i ++ [p] ++ S.drop i).length = c + 1 := by simp; omega
    have hZ : (ROW.drop (i * 2 + 2 + (flatC spC (S.drop i)).length)).length = (G - (c + 1)) * 2 := by
      rw [List.length_drop, HRL.out, HD.out]
      omega
    have hQ := HQ.out
    refine ⟨.slice (some ⟨q, 0, none⟩) (c + 1) G, rfl, ?_, gr_weak (gr_far (gr_far HG1.out HG3.out (Nat.le_of_eq hQ.symm) (fun k hk => by injection hk with hk; omega)).gr_drew HG4.out (Nat.le_of_eq hQ.symm) (fun k hk => by injection hk with hk; omega)), fun k hk => .inr (by injection hk with hk; have : q = k := hk; omega)⟩
    rw [← hl']
    exact OwS.of_row e (by rw [hl']; exact hZ) (by rw [hl']; exact hGn) hGm (Nat.zero_le _)

theorem insert_any (v : Value) (b i : Nat) (S : List (Int × Int)) (p : Int × Int) (W : World) (h : OwS 0 W v S) (hl : S.length ≤ 1000001) (hi : i ≤ S.length) (hb : W.heap[b]? = some (.cells (spC p) 47 (0, 0))) (hbg : ∀ g, v.ownBlock = some g → b ≠ g) :
    Calls Try.prog 42 #[v, .int .i64 i, .slice (some ⟨b, 0, none⟩) 1 1] W (InsIs W v (S.take i ++ [p] ++ S.drop i)) := by
  by_cases he : i = S.length
  · subst he
    rw [List.take_length, List.drop_length, List.append_nil]
    exact insert_end v b _ S p W h rfl hl hb
  · obtain ⟨g, c, rfl, _, _, hc, _⟩ := h.parts (fun e => by rw [e] at hi he; simp at hi he; omega)
    by_cases hr : S.length + 1 ≤ c
    · exact insert_room g c b i _ S p W h hl (by omega) hr hb (hbg g rfl)
    · exact insert_grow g c b i _ S p W h hl (by omega) hr hb

end Go.Proofs.Ytpgefmhjhiemkaa
