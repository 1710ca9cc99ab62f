/- mem: encode. -/
import Derived.Test.YtblhnjoophhliaaM2
import Derived.Laws.ShiftsVar
namespace Go.Proofs.Ytblhnjoophhliaa
open Go.RowKit
/-- Block b is just this value. -/
def VBox (w : World) (b : Nat) (v : Val) : Prop := w.heap[b]? = some (.cells (valC v) 29 (0, 0))
section
variable {w w' : World} {b : Nat} {v : Val}
theorem VBox.new (w : World) (v : Val) : VBox (w.alloc (.cells (valC v) 29)) w.heap.size v := heap_alloc_new w _
theorem VBox.gr {r : Option Nat} (h : VBox w b v) (k : w.grownBy w' r) (hr : some b ≠ r) : VBox w' b v := (k.block b (lt_of_heap h) hr).trans h
theorem VBox.cells (h : VBox w b v) : w.cell? ⟨b, 0, none⟩ = some (.int .i64 v.n) ∧ w.cell? ⟨b, 1, none⟩ = some (.int .i64 v.b) ∧ w.cell? ⟨b, 2, none⟩ = some (.int .i64 v.f) := by
  unfold VBox at h
  refine ⟨?_, ?_, ?_⟩ <;> (simp [World.cell?, h]; rfl)
theorem VBox.froz (h : VBox w b v) (o : Nat) : w.frozen? ⟨b, o, none⟩ = false := by unfold VBox at h; simp [World.frozen?, h]
theorem VBox.far {a : Addr} (h : VBox w b v) (ha : a.block ≠ b) (u : Value) : VBox (w.setCell a u) b v := by unfold VBox at *; rw [Below.heap_setCell _ _ _ _ (fun e => ha e.symm)]; exact h
theorem VBox.put {g o : Nat} {x : Byt} (h : VBox w b v) (hg : g ≠ b) : VBox (putW w g o x) b v := ((((h.far hg _).far hg _).far hg _).far hg _).far hg _
end
theorem gr_to {a b : World} {r : Option Nat} (h : a.grownBy b none) : a.grownBy b r := ⟨h.os, h.tape, h.output, h.size, fun k hk _ => h.block k hk (by simp)⟩
def byteOf (n : Int) (i : Nat) : Int := n / 2 ^ (8 * i) % 256
def numL (n : Int) (k : Nat) : List Byt := (List.range k).map fun i => ⟨1, byteOf n i, val0⟩
def ptrL (v : Val) (k : Nat) : List Byt := (List.range k).map fun (i : Nat) => ⟨2, 0, ⟨v.n, v.b, (i : Int) + 1⟩⟩
theorem numL_len (n : Int) (k : Nat) : (numL n k).length = k := by simp [numL]
theorem ptrL_len (v : Val) (k : Nat) : (ptrL v k).length = k := by simp [ptrL]
theorem numL_succ (n : Int) (k : Nat) : numL n k ++ [⟨1, byteOf n k, val0⟩] = numL n (k + 1) := by simp [numL, List.range_succ]
theorem ptrL_succ (v : Val) (k : Nat) : ptrL v k ++ [⟨2, 0, ⟨v.n, v.b, (k : Int) + 1⟩⟩] = ptrL v (k + 1) := by simp [ptrL, List.range_succ]
def encP (n : Nat) (v : Val) : Option (List Byt) :=
  if numB v = true then some (numL v.n n) else if ptrB v = true ∧ n = 8 then some (ptrL v 8) else if partB v = true ∧ n = 1 then some [⟨2, 0, v⟩] else none
set_option maxRecDepth 100000 in
set_option maxHeartbeats 4000000 in
theorem encode_num (g o n cap : Nat) (v : Val) (M : List Byt) (w : World) (hM : BytesAt w g M) (hn : o + n ≤ M.length) (h8 : n ≤ 8) (hv : numB v = true) :
    Calls Try.prog 39 #[.slice (some ⟨g, o * 5, none⟩) n cap, valV v] w fun e w' => e = .returned (.bool true) ∧ BytesAt w' g (splice M o (numL v.n n)) ∧ w.grownBy w' (some g) := by
  have hlt := hM.lt
  have hgw : g < w.heap.size := hlt
  have HM := Lib.hid hM
  have HV := Lib.hid hv
  clear hM hv hlt
  obtain ⟨vn, vb, vf⟩ := v
  unfold valV valC
  dsimp only
  go_enter Try.func39, Try.ntmps39
  go_wp2_with fail
  refine (show Calls Try.prog 44 #[.agg #[.int .i64 vn, .int .i64 vb, .int .i64 vf]] (w.alloc (.cells #[.int .i64 vn, .int .i64 vb, .int .i64 vf] 29)) _ from isNumber_any ⟨vn, vb, vf⟩ _).mono ?_
  rintro e w1 ⟨rfl, g1⟩
  rw [HV.out]
  have HB1 := Lib.hid ((HM.out.gr (gr_alloc (grownBy_refl w none) (.cells #[.int .i64 vn, .int .i64 vb, .int .i64 vf] 29)) (by simp)).gr g1 (by simp))
  have HX1 := Lib.hid ((VBox.new w ⟨vn, vb, vf⟩).gr g1 (by simp))
  have HG1 := Lib.hid (gr_to (r := some g) (grownBy_trans (gr_alloc (grownBy_refl w none) (.cells #[.int .i64 vn, .int .i64 vb, .int .i64 vf] 29)) g1))
  clear g1 HM
  go_wp2_with fail
  go_loopw [12] (fun i wr => ∃ k : Nat, k ≤ n ∧ i = .int .i64 k ∧ BytesAt wr g (splice M o (numL vn k)) ∧ VBox wr w.heap.size ⟨vn, vb, vf⟩ ∧ w.grownBy wr (some g)) (fun i _ => n - (intOf i).toNat)
  case atStart => exact ⟨0, Nat.zero_le _, rfl, by rw [show numL vn 0 = [] from rfl, splice_nil]; exact HB1.out, HX1.out, HG1.out⟩
  case round =>
    obtain ⟨k, hk, rfl, hB, hX, hg⟩ := hrel
    have HB := Lib.hid hB
    have HG := Lib.hid hg
    have HX := Lib.hid hX
    clear hB hg hX
    by_cases hlt : k < n
    · have hl : (splice M o (numL vn k)).length = M.length := splice_len _ _ _ (by rw [numL_len]; omega)
      have ho : o + k < (splice M o (numL vn k)).length := by rw [hl]; omega
      obtain ⟨x, _, c0, c1, c2, c3, c4, z0, z1, z2, z3, z4⟩ := HB.out.open5 ho
      obtain ⟨x0, x1, x2⟩ := HX.out.cells
      have HL := Lib.hid hl
      clear hl ho
      go_wp2_with fail
      go_roundw
      case rel =>
        refine ⟨k + 1, by omega, by go_num, ?_, HX.out.put (x := ⟨1, byteOf vn k, val0⟩) (by omega), gr_put HG.out (o * 5 + k * 5) ⟨1, byteOf vn k, val0⟩⟩
        have h := HB.out.put (k := k) (o := o) (by rw [HL.out]; omega) ⟨1, byteOf vn k, val0⟩
        have e := splice_snoc M o (numL vn k) ⟨1, byteOf vn k, val0⟩ (by rw [numL_len]; omega)
        rw [numL_len, numL_succ] at e
        rw [e] at h
        exact h
      case measure => simp [intOf]; omega
    · have e : k = n := by omega
      subst e
      clear hlt
      go_wp2_with fail
      go_ret
      exact ⟨rfl, HB.out, HG.out⟩

set_option maxRecDepth 100000 in
set_option maxHeartbeats 4000000 in
theorem encode_ptr (g o n cap : Nat) (v : Val) (M : List Byt) (w : World) (hM : BytesAt w g M) (hn : o + n ≤ M.length) (h8 : n ≤ 8) (hv : numB v = false ∧ ptrB v = true ∧ n = 8) :
    Calls Try.prog 39 #[.slice (some ⟨g, o * 5, none⟩) n cap, valV v] w fun e w' => e = .returned (.bool true) ∧ BytesAt w' g (splice M o (ptrL v 8)) ∧ w.grownBy w' (some g) := by
  have hgw : g < w.heap.size := hM.lt
  have HM := Lib.hid hM
  have HV := Lib.hid hv
  clear hM hv
  obtain ⟨vn, vb, vf⟩ := v
  unfold valV valC
  dsimp only
  go_enter Try.func39, Try.ntmps39
  go_wp2_with fail
  refine (show Calls Try.prog 44 #[.agg #[.int .i64 vn, .int .i64 vb, .int .i64 vf]] (w.alloc (.cells #[.int .i64 vn, .int .i64 vb, .int .i64 vf] 29)) _ from isNumber_any ⟨vn, vb, vf⟩ _).mono ?_
  rintro e w1 ⟨rfl, g1⟩
  rw [HV.out.1]
  have HB1 := Lib.hid ((HM.out.gr (gr_alloc (grownBy_refl w none) (.cells #[.int .i64 vn, .int .i64 vb, .int .i64 vf] 29)) (by simp)).gr g1 (by simp))
  have HX1 := Lib.hid ((VBox.new w ⟨vn, vb, vf⟩).gr g1 (by simp))
  have HG1 := Lib.hid (gr_to (r := some g) (grownBy_trans (gr_alloc (grownBy_refl w none) (.cells #[.int .i64 vn, .int .i64 vb, .int .i64 vf] 29)) g1))
  clear g1 HM
  obtain ⟨x0, x1, x2⟩ := HX1.out.cells
  go_wp2_with fail
  refine (show Calls Try.prog 46 #[.agg #[.int .i64 vn, .int .i64 vb, .int .i64 vf]] w1 _ from isPointer_any ⟨vn, vb, vf⟩ _).mono ?_
  rintro e w2 ⟨rfl, g2⟩
  have HB2 := Lib.hid (HB1.out.gr g2 (by simp))
  have HX2 := Lib.hid (HX1.out.gr g2 (by simp))
  have HG2 := Lib.hid (grownBy_trans HG1.out (gr_to g2))
  clear g2 HB1 HX1 HG1 x0 x1 x2
  obtain ⟨x0, x1, x2⟩ := HX2.out.cells
  rw [HV.out.2.1]
  obtain rfl : n = 8 := HV.out.2.2
  go_wp2_with fail
  go_loopw [36] (fun i wr => ∃ k : Nat, k ≤ 8 ∧ i = .int .i64 k ∧ BytesAt wr g (splice M o (ptrL ⟨vn, vb, vf⟩ k)) ∧ VBox wr w.heap.size ⟨vn, vb, vf⟩ ∧ w.grownBy wr (some g)) (fun i _ => 8 - (intOf i).toNat)
  case atStart => exact ⟨0, Nat.zero_le _, rfl, by rw [show ptrL _ 0 = [] from rfl, splice_nil]; exact HB2.out, HX2.out, HG2.out⟩
  case round =>
    obtain ⟨k, hk, rfl, hB, hX, hg⟩ := hrel
    have HB := Lib.hid hB
    have HG := Lib.hid hg
    have HX := Lib.hid hX
    clear hB hg hX x0 x1 x2
    by_cases hlt : k < 8
    · obtain ⟨x0, x1, x2⟩ := HX.out.cells
      go_wp2_with fail
      refine (show Calls Try.prog 50 #[.agg #[.int .i64 vn, .int .i64 vb, .int .i64 vf], .int .i64 ((k : Int) + 1)] wr _ from part_any ⟨vn, vb, vf⟩ _ _).mono ?_
      rintro e wq ⟨rfl, gq⟩
      unfold bytV bytC
      have HB' := Lib.hid (HB.out.gr gq (by simp))
      have HX' := Lib.hid (HX.out.gr gq (by simp))
      have HG' := Lib.hid (grownBy_trans HG.out (gr_to gq))
      clear HB HX HG gq x0 x1 x2
      have hl : (splice M o (ptrL ⟨vn, vb, vf⟩ k)).length = M.length := splice_len _ _ _ (by rw [ptrL_len]; omega)
      have ho : o + k < (splice M o (ptrL ⟨vn, vb, vf⟩ k)).length := by rw [hl]; omega
      obtain ⟨x, _, c0, c1, c2, c3, c4, z0, z1, z2, z3, z4⟩ := HB'.out.open5 ho
      have HL := Lib.hid hl
      clear hl ho
      go_wp2_with fail
      go_roundw
      case rel =>
        refine ⟨k + 1, by omega, by go_num, ?_, HX'.out.put (x := ⟨2, 0, ⟨vn, vb, (k : Int) + 1⟩⟩) (by omega), gr_put HG'.out (o * 5 + k * 5) ⟨2, 0, ⟨vn, vb, (k : Int) + 1⟩⟩⟩
        have h := HB'.out.put (k := k) (o := o) (by rw [HL.out]; omega) ⟨2, 0, ⟨vn, vb, (k : Int) + 1⟩⟩
        have e := splice_snoc M o (ptrL ⟨vn, vb, vf⟩ k) ⟨2, 0, ⟨vn, vb, (k : Int) + 1⟩⟩ (by rw [ptrL_len]; omega)
        rw [ptrL_len, ptrL_succ] at e
        rw [e] at h
        exact h
      case measure => simp [intOf]; omega
    · obtain rfl : k = 8 := by omega
      clear hlt
      go_wp2_with fail
      go_ret
      exact ⟨rfl, HB.out, HG.out⟩
set_option maxRecDepth 100000 in
set_option maxHeartbeats 4000000 in
theorem encode_part (g o n cap : Nat) (v : Val) (M : List Byt) (w : World) (hM : BytesAt w g M) (hn : o + n ≤ M.length) (h8 : n ≤ 8) (hv : numB v = false ∧ (ptrB v = false ∨ n ≠ 8) ∧ partB v = true ∧ n = 1) :
    Calls Try.prog 39 #[.slice (some ⟨g, o * 5, none⟩) n cap, valV v] w fun e w' => e = .returned (.bool true) ∧ BytesAt w' g (splice M o [⟨2, 0, v⟩]) ∧ w.grownBy w' (some g) := by
  have hgw : g < w.heap.size := hM.lt
  have HM := Lib.hid hM
  have HV := Lib.hid hv
  clear hM hv
  obtain ⟨vn, vb, vf⟩ := v
  unfold valV valC
  dsimp only
  go_enter Try.func39, Try.ntmps39
  go_wp2_with fail
  refine (show Calls Try.prog 44 #[.agg #[.int .i64 vn, .int .i64 vb, .int .i64 vf]] (w.alloc (.cells #[.int .i64 vn, .int .i64 vb, .int .i64 vf] 29)) _ from isNumber_any ⟨vn, vb, vf⟩ _).mono ?_
  rintro e w1 ⟨rfl, g1⟩
  rw [HV.out.1]
  have HB1 := Lib.hid ((HM.out.gr (gr_alloc (grownBy_refl w none) (.cells #[.int .i64 vn, .int .i64 vb, .int .i64 vf] 29)) (by simp)).gr g1 (by simp))
  have HX1 := Lib.hid ((VBox.new w ⟨vn, vb, vf⟩).gr g1 (by simp))
  have HG1 := Lib.hid (gr_to (r := some g) (grownBy_trans (gr_alloc (grownBy_refl w none) (.cells #[.int .i64 vn, .int .i64 vb, .int .i64 vf] 29)) g1))
  clear g1 HM
  obtain ⟨x0, x1, x2⟩ := HX1.out.cells
  go_wp2_with fail
  refine (show Calls Try.prog 46 #[.agg #[.int .i64 vn, .int .i64 vb, .int .i64 vf]] w1 _ from isPointer_any ⟨vn, vb, vf⟩ _).mono ?_
  rintro e w2 ⟨rfl, g2⟩
  have HB2 := Lib.hid (HB1.out.gr g2 (by simp))
  have HX2 := Lib.hid (HX1.out.gr g2 (by simp))
  have HG2 := Lib.hid (grownBy_trans HG1.out (gr_to g2))
  clear g2 HB1 HX1 HG1 x0 x1 x2
  obtain ⟨x0, x1, x2⟩ := HX2.out.cells
  obtain rfl : n = 1 := HV.out.2.2.2
  have HP : Hid (partB ⟨vn, vb, vf⟩ = true) := HV.out.2.2.1
  clear HV
  rcases ptrB ⟨vn, vb, vf⟩
  all_goals
    go_wp2_with fail
    refine (show Calls Try.prog 51 #[.agg #[.int .i64 vn, .int .i64 vb, .int .i64 vf]] w2 _ from isPart_any ⟨vn, vb, vf⟩ _).mono ?_
    rintro e w3 ⟨rfl, g3⟩
    have HB3 := Lib.hid (HB2.out.gr g3 (by simp))
    have HX3 := Lib.hid (HX2.out.gr g3 (by simp))
    have HG3 := Lib.hid (grownBy_trans HG2.out (gr_to g3))
    clear g3 HB2 HX2 HG2 x0 x1 x2
    obtain ⟨x0, x1, x2⟩ := HX3.out.cells
    rw [HP.out]
    go_wp2_with fail
    refine (show Calls Try.prog 50 #[.agg #[.int .i64 vn, .int .i64 vb, .int .i64 vf], .int .i64 vf] w3 _ from part_any ⟨vn, vb, vf⟩ _ _).mono ?_
    rintro e w4 ⟨rfl, g4⟩
    have HB4 := Lib.hid (HB3.out.gr g4 (by simp))
    have HG4 := Lib.hid (grownBy_trans HG3.out (gr_to g4))
    clear g4 HB3 HX3 HG3 x0 x1 x2
    unfold bytV bytC
    obtain ⟨x, _, c0, c1, c2, c3, c4, z0, z1, z2, z3, z4⟩ := HB4.out.open5 (o := o) (k := 0) (by omega)
    simp only [Nat.zero_mul, Nat.add_zero] at c0 c1 c2 c3 c4 z0 z1 z2 z3 z4
    go_wp2_with fail
    go_ret
    refine ⟨rfl, ?_, gr_put HG4.out (o * 5) ⟨2, 0, ⟨vn, vb, vf⟩⟩⟩
    have h := HB4.out.put (k := 0) (o := o) (by omega) ⟨2, 0, ⟨vn, vb, vf⟩⟩
    have e := splice_snoc M o [] ⟨2, 0, ⟨vn, vb, vf⟩⟩ (by simp; omega)
    simp only [List.length_nil, Nat.add_zero, List.nil_append, Nat.zero_mul] at e h
    rw [splice_nil] at e
    rw [e] at h
    exact h
set_option maxRecDepth 100000 in
set_option maxHeartbeats 4000000 in
theorem encode_none (g o n cap : Nat) (v : Val) (M : List Byt) (w : World) (hM : BytesAt w g M) (hn : o + n ≤ M.length) (h8 : n ≤ 8) (hv : numB v = false ∧ (ptrB v = false ∨ n ≠ 8) ∧ (partB v = false ∨ n ≠ 1)) :
    Calls Try.prog 39 #[.slice (some ⟨g, o * 5, none⟩) n cap, valV v] w fun e w' => e = .returned (.bool false) ∧ BytesAt w' g M ∧ w.grownBy w' (some g) := by
  have hgw : g < w.heap.size := hM.lt
  have HM := Lib.hid hM
  have HV := Lib.hid hv
  clear hM hv
  obtain ⟨vn, vb, vf⟩ := v
  unfold valV valC
  dsimp only
  go_enter Try.func39, Try.ntmps39
  go_wp2_with fail
  refine (show Calls Try.prog 44 #[.agg #[.int .i64 vn, .int .i64 vb, .int .i64 vf]] (w.alloc (.cells #[.int .i64 vn, .int .i64 vb, .int .i64 vf] 29)) _ from isNumber_any ⟨vn, vb, vf⟩ _).mono ?_
  rintro e w1 ⟨rfl, g1⟩
  rw [HV.out.1]
  have HB1 := Lib.hid ((HM.out.gr (gr_alloc (grownBy_refl w none) (.cells #[.int .i64 vn, .int .i64 vb, .int .i64 vf] 29)) (by simp)).gr g1 (by simp))
  have HX1 := Lib.hid ((VBox.new w ⟨vn, vb, vf⟩).gr g1 (by simp))
  have HG1 := Lib.hid (gr_to (r := some g) (grownBy_trans (gr_alloc (grownBy_refl w none) (.cells #[.int .i64 vn, .int .i64 vb, .int .i64 vf] 29)) g1))
  clear g1 HM
  obtain ⟨x0, x1, x2⟩ := HX1.out.cells
  go_wp2_with fail
  refine (show Calls Try.prog 46 #[.agg #[.int .i64 vn, .int .i64 vb, .int .i64 vf]] w1 _ from isPointer_any ⟨vn, vb, vf⟩ _).mono ?_
  rintro e w2 ⟨rfl, g2⟩
  have HB2 := Lib.hid (HB1.out.gr g2 (by simp))
  have HX2 := Lib.hid (HX1.out.gr g2 (by simp))
  have HG2 := Lib.hid (grownBy_trans HG1.out (gr_to g2))
  clear g2 HB1 HX1 HG1 x0 x1 x2
  obtain ⟨x0, x1, x2⟩ := HX2.out.cells
  by_cases e8 : n = 8
  · subst e8
    rw [HV.out.2.1.resolve_right (by simp)]
    go_wp2_with fail
    refine (show Calls Try.prog 51 #[.agg #[.int .i64 vn, .int .i64 vb, .int .i64 vf]] w2 _ from isPart_any ⟨vn, vb, vf⟩ _).mono ?_
    rintro e w3 ⟨rfl, g3⟩
    have HB3 := Lib.hid (HB2.out.gr g3 (by simp))
    have HG3 := Lib.hid (grownBy_trans HG2.out (gr_to g3))
    clear g3 HB2 HX2 HG2 x0 x1 x2 HV
    rcases partB ⟨vn, vb, vf⟩
    all_goals
      go_wp2_with fail
      go_ret
      exact ⟨rfl, HB3.out, HG3.out⟩
  · have f8 : ((n : Int) == 8) = false := by simp; omega
    have HV' := Lib.hid HV.out.2.2
    clear e8 HV
    rcases ptrB ⟨vn, vb, vf⟩
    all_goals
      go_wp2_with fail
      refine (show Calls Try.prog 51 #[.agg #[.int .i64 vn, .int .i64 vb, .int .i64 vf]] w2 _ from isPart_any ⟨vn, vb, vf⟩ _).mono ?_
      rintro e w3 ⟨rfl, g3⟩
      have HB3 := Lib.hid (HB2.out.gr g3 (by simp))
      have HG3 := Lib.hid (grownBy_trans HG2.out (gr_to g3))
      clear g3 HB2 HX2 HG2 x0 x1 x2
      by_cases e1 : n = 1
      · subst e1
        rw [HV'.out.resolve_right (by simp)]
        clear f8
        go_wp2_with fail
        go_ret
        exact ⟨rfl, HB3.out, HG3.out⟩
      · have f1 : ((n : Int) == 1) = false := by simp; omega
        clear e1 HV'
        rcases partB ⟨vn, vb, vf⟩
        all_goals
          go_wp2_with fail
          go_ret
          exact ⟨rfl, HB3.out, HG3.out⟩
/-- What encode answers, and what block g holds then. -/
theorem encode_any (g o n cap : Nat) (v : Val) (M : List Byt) (w : World) (hM : BytesAt w g M) (hn : o + n ≤ M.length) (h8 : n ≤ 8) :
    Calls Try.prog 39 #[.slice (some ⟨g, o * 5, none⟩) n cap, valV v] w fun e w' => e = .returned (.bool (encP n v).isSome) ∧ BytesAt w' g (((encP n v).map (splice M o)).getD M) ∧ w.grownBy w' (some g) := by
  unfold encP
  by_cases a : numB v = true
  · rw [if_pos a]
    exact encode_num g o n cap v M w hM hn h8 a
  · rw [if_neg a]
    have a' : numB v = false := by simpa using a
    by_cases b : ptrB v = true ∧ n = 8
    · rw [if_pos b]
      exact encode_ptr g o n cap v M w hM hn h8 ⟨a', b.1, b.2⟩
    · rw [if_neg b]
      have b' : ptrB v = false ∨ n ≠ 8 := by
        rcases h : ptrB v
        · exact .inl rfl
        · exact .inr fun e => b ⟨h, e⟩
      by_cases c : partB v = true ∧ n = 1
      · rw [if_pos c]
        exact encode_part g o n cap v M w hM hn h8 ⟨a', b', c.1, c.2⟩
      · rw [if_neg c]
        have c' : partB v = false ∨ n ≠ 1 := by
          rcases h : partB v
          · exact .inl rfl
          · exact .inr fun e => c ⟨h, e⟩
        exact encode_none g o n cap v M w hM hn h8 ⟨a', b', c'⟩

end Go.Proofs.Ytblhnjoophhliaa
