/- mem: pointer, decode. -/
import Derived.Test.YtblhnjoophhliaaM4
import Derived.Deep.RegionHeld3
import Derived.Deep.RegionWith
import Derived.IntWalk
namespace Go.Proofs.Ytblhnjoophhliaa
open Go.RowKit
theorem heldByte : Try.prog.stoodInHeld 67 = false := by kernel_rfl
theorem heldVal : Try.prog.stoodInHeld 29 = false := by kernel_rfl
theorem structByte : Try.prog.underlying 67 = some (.struct (Try.prog.fieldsOf 67)) := by kernel_rfl
theorem structVal : Try.prog.underlying 29 = some (.struct (Try.prog.fieldsOf 29)) := by kernel_rfl
theorem fieldsVal' : (Try.prog.fieldsOf 29).toList.map (fun f => (decide (f.name = "_"), f.type, f.offset)) = [(false, 2, 0), (false, 3, 1), (false, 3, 2)] := by kernel_rfl
theorem fieldsByte' : (Try.prog.fieldsOf 67).toList.map (fun f => (decide (f.name = "_"), f.type, f.offset)) = [(false, 3, 0), (false, 5, 1), (false, 29, 2)] := by kernel_rfl
/-- The comparison of fields asks their names, types and places alone. -/
def eqParts (d : Nat) (xs ys : Array Value) : List (Bool × TypeId × Nat) → Sem Bool
  | [] => pure true
  | (blank, t, o) :: fs =>
    if blank = false then do
      let a ← part t xs o
      let b ← part t ys o
      let r ← Op.equalIn d t a b
      if (!r) = true then pure false else eqParts d xs ys fs
    else eqParts d xs ys fs
theorem eqFields_parts (d : Nat) (xs ys : Array Value) : ∀ fs : List Field, Op.eqFields d xs ys fs = eqParts d xs ys (fs.map fun f => (decide (f.name = "_"), f.type, f.offset))
  | [] => rfl
  | f :: fs => by
    rw [Op.eqFields, List.map_cons, eqParts, eqFields_parts d xs ys fs]
    by_cases h : f.name = "_" <;> simp [h]
theorem part_b0 (w : World) (a b c d e : Value) : (part 3 #[a, b, c, d, e] 0).run Try.prog w = .ok a w := by simp [part, go_sem]
theorem part_b1 (w : World) (a b c d e : Value) : (part 5 #[a, b, c, d, e] 1).run Try.prog w = .ok b w := by simp [part, go_sem]
theorem part_b2 (w : World) (a b c d e : Value) : (part 29 #[a, b, c, d, e] 2).run Try.prog w = .ok (.agg #[c, d, e]) w := by simp [part, go_sem]
theorem part_v0 (w : World) (a b c : Value) : (part 2 #[a, b, c] 0).run Try.prog w = .ok a w := by simp [part, go_sem]
theorem part_v1 (w : World) (a b c : Value) : (part 3 #[a, b, c] 1).run Try.prog w = .ok b w := by simp [part, go_sem]
theorem part_v2 (w : World) (a b c : Value) : (part 3 #[a, b, c] 2).run Try.prog w = .ok c w := by simp [part, go_sem]
theorem eqVal (w : World) (d : Nat) (n b f n' b' f' : Int) :
    (Op.equalIn (d + 2) 29 (.agg #[.int .i64 n, .int .i64 b, .int .i64 f]) (.agg #[.int .i64 n', .int .i64 b', .int .i64 f'])).run Try.prog w = .ok (decide ((⟨n, b, f⟩ : Val) = ⟨n', b', f'⟩)) w := by
  rw [show d + 2 = (d + 1) + 1 from rfl, run_equalIn_agg w (d + 1) 29 _ _ structVal heldVal, eqFields_parts, fieldsVal']
  by_cases h0 : n = n' <;> by_cases h1 : b = b' <;> by_cases h2 : f = f' <;>
  simp [eqParts, part_v0, part_v1, part_v2, run_equalIn_int w d _ _ _ _ _ Try.underlying3, run_equalIn_int w d _ _ _ _ _ Try.underlying2, h0, h1, h2]
theorem eqByt (w : World) (d : Nat) (k v n b f k' v' n' b' f' : Int) :
    (Op.equalIn (d + 3) 67 (.agg #[.int .i64 k, .int .u8 v, .int .i64 n, .int .i64 b, .int .i64 f]) (.agg #[.int .i64 k', .int .u8 v', .int .i64 n', .int .i64 b', .int .i64 f'])).run Try.prog w = .ok (decide ((⟨k, v, ⟨n, b, f⟩⟩ : Byt) = ⟨k', v', ⟨n', b', f'⟩⟩)) w := by
  rw [show d + 3 = (d + 2) + 1 from rfl, run_equalIn_agg w (d + 2) 67 _ _ structByte heldByte, eqFields_parts, fieldsByte']
  by_cases h0 : k = k' <;> by_cases h1 : v = v' <;>
  simp [eqParts, part_b0, part_b1, part_b2, eqVal, run_equalIn_int w (d + 1) _ _ _ _ _ Try.underlying3, run_equalIn_int w (d + 1) _ _ _ _ _ Try.underlying5, h0, h1]
  by_cases h2 : n = n' <;> by_cases h3 : b = b' <;> by_cases h4 : f = f' <;> simp [h2, h3, h4]
theorem neqByte (w : World) (k v n b f k' v' n' b' f' : Int) :
    (binOp .neq 67 (.agg #[.int .i64 k, .int .u8 v, .int .i64 n, .int .i64 b, .int .i64 f]) (.agg #[.int .i64 k', .int .u8 v', .int .i64 n', .int .i64 b', .int .i64 f'])).run Try.prog w = .ok (.bool (!decide ((⟨k, v, ⟨n, b, f⟩⟩ : Byt) = ⟨k', v', ⟨n', b', f'⟩⟩))) w := by
  rw [run_neq_struct, show (10000 : Nat) = 9997 + 3 from rfl, eqByt]
  rfl
theorem ptrL_at (v : Val) {n k : Nat} (h : k < n) : (ptrL v n)[k]? = some ⟨2, 0, ⟨v.n, v.b, (k : Int) + 1⟩⟩ := by simp [ptrL, h]
def ptr0 (b : Byt) : Val := ⟨b.p.n, b.p.b, 0⟩
def ptrP (b : Byt) (l : List Byt) : Val × Bool := if ptrB (ptr0 b) = true ∧ l = ptrL (ptr0 b) l.length then (ptr0 b, true) else (val0, false)
/-- Two values of the call's own, and a byte behind them. -/
structure PR (w : World) (p : Val) (W : World) : Prop where
  b0 : VBox W w.heap.size val0
  b1 : VBox W (w.heap.size + 1) p
  gr : w.grownBy W none
theorem PR.grown {w a b : World} {p : Val} (h : PR w p a) (g : a.grownBy b none) : PR w p b := ⟨h.b0.gr g (by simp), h.b1.gr g (by simp), grownBy_trans h.gr g⟩
theorem PR.drew {w a : World} {p : Val} (h : PR w p a) : PR w p a.drew := ⟨h.b0, h.b1, h.gr.gr_drew⟩
theorem PR.reads {w W : World} {n b f : Int} (h : PR w ⟨n, b, f⟩ W) : W.cell? ⟨w.heap.size, 0, none⟩ = some (.int .i64 0) ∧ W.cell? ⟨w.heap.size, 1, none⟩ = some (.int .i64 0) ∧ W.cell? ⟨w.heap.size, 2, none⟩ = some (.int .i64 0) ∧
    W.cell? ⟨w.heap.size + 1, 0, none⟩ = some (.int .i64 n) ∧ W.cell? ⟨w.heap.size + 1, 1, none⟩ = some (.int .i64 b) ∧ W.cell? ⟨w.heap.size + 1, 2, none⟩ = some (.int .i64 f) ∧
    W.frozen? ⟨w.heap.size, 0, none⟩ = false ∧ W.frozen? ⟨w.heap.size, 1, none⟩ = false ∧ W.frozen? ⟨w.heap.size, 2, none⟩ = false ∧ w.heap.size + 1 < W.heap.size :=
  ⟨h.b0.cells.1, h.b0.cells.2.1, h.b0.cells.2.2, h.b1.cells.1, h.b1.cells.2.1, h.b1.cells.2.2, h.b0.froz 0, h.b0.froz 1, h.b0.froz 2, lt_of_heap h.b1⟩
/-- Block q is just this byte. -/
def BBox (w : World) (q : Nat) (x : Byt) : Prop := w.heap[q]? = some (.cells (bytC x) 67 (0, 0))
theorem BBox.new (w : World) (x : Byt) : BBox (w.alloc (.cells (bytC x) 67)) w.heap.size x := heap_alloc_new w _
theorem BBox.gr {w w' : World} {q : Nat} {x : Byt} {r : Option Nat} (h : BBox w q x) (k : w.grownBy w' r) (hr : some q ≠ r) : BBox w' q x := (k.block q (lt_of_heap h) hr).trans h
theorem BBox.cells {w : World} {q : Nat} {k v n b f : Int} (h : BBox w q ⟨k, v, ⟨n, b, f⟩⟩) : w.cell? ⟨q, 0, none⟩ = some (.int .i64 k) ∧ w.cell? ⟨q, 1, none⟩ = some (.int .u8 v) ∧ w.cell? ⟨q, 2, none⟩ = some (.int .i64 n) ∧ w.cell? ⟨q, 3, none⟩ = some (.int .i64 b) ∧ w.cell? ⟨q, 4, none⟩ = some (.int .i64 f) := by
  unfold BBox at h
  refine ⟨?_, ?_, ?_, ?_, ?_⟩ <;> (simp [World.cell?, h]; rfl)
structure PRB (w : World) (p : Val) (q : Nat) (x : Byt) (W : World) : Prop where
  pr : PR w p W
  bx : BBox W q x
theorem PRB.grown {w a b : World} {p : Val} {q : Nat} {x : Byt} (h : PRB w p q x a) (g : a.grownBy b none) : PRB w p q x b := ⟨h.pr.grown g, h.bx.gr g (by simp)⟩
theorem PRB.drew {w a : World} {p : Val} {q : Nat} {x : Byt} (h : PRB w p q x a) : PRB w p q x a.drew := ⟨h.pr.drew, h.bx⟩
theorem PR.new (w : World) (n b f : Int) : PR w ⟨n, b, f⟩ ((w.alloc (.cells #[.int .i64 0, .int .i64 0, .int .i64 0] 29)).alloc (.cells #[.int .i64 n, .int .i64 b, .int .i64 f] 29)) :=
  ⟨VBox.gr (r := none) (VBox.new w val0) (gr_alloc (grownBy_refl _ _) _) (by simp), (show _ = _ by have := heap_alloc_new (w.alloc (.cells #[.int .i64 0, .int .i64 0, .int .i64 0] 29)) (.cells #[.int .i64 n, .int .i64 b, .int .i64 f] 29); simpa [valC] using this), gr_alloc (gr_alloc (grownBy_refl _ _) _) _⟩
set_option maxRecDepth 100000 in
set_option maxHeartbeats 4000000 in
theorem pointer_any (g o n cap : Nat) (M : List Byt) (w : World) (hM : BytesAt w g M) (hn : o + n ≤ M.length) (h1 : 1 ≤ n) (h8 : n ≤ 8) (b : Byt) (hb : M[o]? = some b) :
    Calls Try.prog 49 #[.slice (some ⟨g, o * 5, none⟩) n cap] w fun e w' => e = .returned (.tuple #[valV (ptrP b (segL M o n)).1, .bool (ptrP b (segL M o n)).2]) ∧ w.grownBy w' none := by
  have hgw : g < w.heap.size := hM.lt
  obtain ⟨x, hx, c0, c1, c2, c3, c4, z0, z1, z2, z3, z4⟩ := hM.open5 (o := o) (k := 0) (by omega)
  simp only [Nat.zero_mul, Nat.add_zero] at c0 c1 c2 c3 c4 hx
  obtain rfl : b = x := Option.some.inj (hb.symm.trans hx)
  have HM := Lib.hid hM
  have HBX := Lib.hid hx
  clear hM hb hx z0 z1 z2 z3 z4
  obtain ⟨bk, bv, ⟨bn, bb, bf⟩⟩ := b
  dsimp only at c0 c1 c2 c3 c4
  have HSL := Lib.hid (seg_len hn)
  go_enter Try.func49, Try.ntmps49
  go_wp2_with fail
  refine (show Calls Try.prog 46 #[.agg #[.int .i64 bn, .int .i64 bb, .int .i64 0]] ((w.alloc (.cells #[.int .i64 0, .int .i64 0, .int .i64 0] 29)).alloc (.cells #[.int .i64 bn, .int .i64 bb, .int .i64 0] 29)) _ from isPointer_any ⟨bn, bb, 0⟩ _).mono ?_
  rintro e w1 ⟨rfl, g1⟩
  have HP1 := Lib.hid (PR.grown (PR.new w bn bb 0) g1)
  clear g1
  obtain ⟨x0, x1, x2, x3, x4, x5, f0, f1, f2, hz⟩ := PR.reads HP1.out
  rcases hp : ptrB ⟨bn, bb, 0⟩
  · have HP := Lib.hid hp
    clear hp
    go_wp2_with fail
    exact bodyPost_ret (v := .tuple #[.agg #[.int .i64 0, .int .i64 0, .int .i64 0], .bool false]) (by simp [results, Try.results49, go_sem, x0, x1, x2]) rfl ⟨by unfold ptrP ptr0; dsimp only; rw [HP.out]; rfl, by have := HP1.out.gr; repeat (first | with_reducible exact grownBy_refl _ _ | with_reducible assumption | with_reducible refine World.grownBy.gr_drew ?_ | with_reducible refine World.grownBy.gr_set ?_ (by simp) _ | with_reducible refine gr_alloc ?_ _)⟩
  · have HP := Lib.hid hp
    clear hp
    go_wp2_with fail
    clear x0 x1 x2 x3 x4 x5 f0 f1 f2 hz c0 c1 c2 c3 c4
    go_loopw [18] (fun i wr => ∃ k : Nat, k ≤ n ∧ i = .int .i64 k ∧ segL M o k = ptrL ⟨bn, bb, 0⟩ k ∧ PR w ⟨bn, bb, 0⟩ wr) (fun i _ => n - (intOf i).toNat)
    case atStart => exact ⟨0, Nat.zero_le _, rfl, rfl, HP1.out⟩
    case round =>
      obtain ⟨k, hk, rfl, hA, hX⟩ := hrel
      have HA := Lib.hid hA
      have HX := Lib.hid hX
      have HB := Lib.hid (HM.out.gr hX.gr (by simp))
      clear hX hA
      obtain ⟨x0, x1, x2, x3, x4, x5, f0, f1, f2, hz⟩ := PR.reads HX.out
      by_cases hlt : k < n
      · obtain ⟨x, hx, c0, c1, c2, c3, c4, z0, z1, z2, z3, z4⟩ := HB.out.open5 (o := o) (k := k) (by omega)
        have HXM := Lib.hid hx
        clear hx z0 z1 z2 z3 z4
        obtain ⟨xk, xv, ⟨xn, xb, xf⟩⟩ := x
        dsimp only at c0 c1 c2 c3 c4
        go_wp2_with fail
        have HY := PRB.drew (w := w) (p := ⟨bn, bb, 0⟩) (q := wr.heap.size) (x := ⟨xk, xv, ⟨xn, xb, xf⟩⟩) (a := wr.alloc (.cells #[.int .i64 xk, .int .u8 xv, .int .i64 xn, .int .i64 xb, .int .i64 xf] 67)) ⟨HX.out.grown (gr_alloc (grownBy_refl _ _) _), BBox.new wr ⟨xk, xv, ⟨xn, xb, xf⟩⟩⟩
        obtain ⟨y0, y1, y2, y3, y4⟩ := HY.bx.cells
        obtain ⟨x0, x1, x2, x3, x4, x5, f0, f1, f2, hz⟩ := PR.reads HY.pr
        obtain ⟨C, hC⟩ : ∃ C : Bool, C = !decide ((⟨xk, xv, ⟨xn, xb, xf⟩⟩ : Byt) = ⟨2, 0, ⟨bn, bb, (k : Int) + 1⟩⟩) := ⟨_, rfl⟩
        have hcmp := fun W => neqByte W xk xv xn xb xf 2 0 bn bb ((k : Int) + 1)
        rw [← hC] at hcmp
        have HC := Lib.hid hC
        clear hC
        have hsum : IntKind.i64.wrap ((k : Int) + 1) = (k : Int) + 1 := IntWalk.i64_in _ (by omega)
        go_region_with (go_at_call 50; refine (show Calls Try.prog 50 #[.agg #[.int .i64 bn, .int .i64 bb, .int .i64 0], .int .i64 ((k : Int) + 1)] _ _ from part_any ⟨bn, bb, 0⟩ _ _).mono ?_; rintro e w' ⟨rfl, hg⟩; unfold bytV bytC; have hbx := PRB.grown (by assumption) hg; clear hg; obtain ⟨y0, y1, y2, y3, y4⟩ := hbx.bx.cells; obtain ⟨x0, x1, x2, x3, x4, x5, f0, f1, f2, hz⟩ := PR.reads hbx.pr)
        all_goals
          have HW := Lib.hid hbx.pr
          clear hcmp hsum c0 c1 c2 c3 c4 y0 y1 y2 y3 y4 HY hbx
          by_cases e : (⟨xk, xv, ⟨xn, xb, xf⟩⟩ : Byt) = ⟨2, 0, ⟨bn, bb, (k : Int) + 1⟩⟩
          · obtain rfl : C = false := by rw [HC.out]; simpa using e
            have HE := Lib.hid e
            clear e
            go_wp2_with fail
            go_roundw
            case rel => exact ⟨k + 1, by omega, by go_num, by rw [seg_succ HXM.out, HA.out, HE.out, ← ptrL_succ], HW.out⟩
            case measure => simp [intOf]; omega
          · obtain rfl : C = true := by rw [HC.out, decide_eq_false e]; rfl
            have HE := Lib.hid (show ptrP ⟨bk, bv, ⟨bn, bb, bf⟩⟩ (segL M o n) = (val0, false) from by
              unfold ptrP
              rw [if_neg]
              rintro ⟨_, h⟩
              have h1 := (seg_at (n := n) hlt).trans HXM.out
              rw [h, ptrL_at _ (by rw [HSL.out]; exact hlt)] at h1
              exact e (Option.some.inj h1).symm)
            clear e
            go_wp2_with fail
            exact bodyPost_ret (v := .tuple #[.agg #[.int .i64 0, .int .i64 0, .int .i64 0], .bool false]) (by simp [results, Try.results49, go_sem, x0, x1, x2]) rfl ⟨by rw [HE.out]; rfl, by have := HW.out.gr; repeat (first | with_reducible exact grownBy_refl _ _ | with_reducible assumption | with_reducible refine World.grownBy.gr_drew ?_ | with_reducible refine World.grownBy.gr_set ?_ (by simp) _ | with_reducible refine gr_alloc ?_ _)⟩
      · obtain rfl : k = n := by omega
        have HE := Lib.hid (show ptrP ⟨bk, bv, ⟨bn, bb, bf⟩⟩ (segL M o k) = (⟨bn, bb, 0⟩, true) from by
          unfold ptrP
          rw [if_pos ⟨HP.out, by rw [HSL.out]; exact HA.out⟩]
          rfl)
        clear hlt
        go_wp2_with fail
        exact bodyPost_ret (v := .tuple #[.agg #[.int .i64 bn, .int .i64 bb, .int .i64 0], .bool true]) (by simp [results, Try.results49, go_sem, x0, x1, x2]) rfl ⟨by rw [HE.out]; rfl, by have := HX.out.gr; repeat (first | with_reducible exact grownBy_refl _ _ | with_reducible assumption | with_reducible refine World.grownBy.gr_drew ?_ | with_reducible refine World.grownBy.gr_set ?_ (by simp) _ | with_reducible refine gr_alloc ?_ _)⟩

/-- What 1, 4 or 8 bytes hold. -/
def decP (b : Byt) (l : List Byt) : Val × Bool :=
  if b.k = 1 then numP l else if b.k = 2 ∧ l.length = 1 then (b.p, true) else if b.k = 2 ∧ l.length = 8 then ptrP b l else (val0, false)
set_option maxRecDepth 100000 in
set_option maxHeartbeats 4000000 in
theorem decode_any (g o n cap : Nat) (M : List Byt) (w : World) (hM : BytesAt w g M) (hn : o + n ≤ M.length) (h1 : 1 ≤ n) (h8 : n ≤ 8) (hY : Byts M) (b : Byt) (hb : M[o]? = some b) :
    Calls Try.prog 37 #[.slice (some ⟨g, o * 5, none⟩) n cap] w fun e w' => e = .returned (.tuple #[valV (decP b (segL M o n)).1, .bool (decP b (segL M o n)).2]) ∧ w.grownBy w' none := by
  have hgw : g < w.heap.size := hM.lt
  obtain ⟨x, hx, c0, c1, c2, c3, c4, z0, z1, z2, z3, z4⟩ := hM.open5 (o := o) (k := 0) (by omega)
  simp only [Nat.zero_mul, Nat.add_zero] at c0 c1 c2 c3 c4 hx
  obtain rfl : b = x := Option.some.inj (hb.symm.trans hx)
  have HSL := Lib.hid (seg_len hn)
  have HG0 := Lib.hid (Slot.new w val0)
  clear hx z0 z1 z2 z3 z4
  by_cases e1 : b.k = 1
  · have HE := Lib.hid (show decP b (segL M o n) = numP (segL M o n) from by unfold decP; rw [if_pos e1])
    have HN := Lib.hid (fun W (hW : BytesAt W g M) => number_any g o n cap M W hW hn h8 hY)
    have HM := Lib.hid hM
    clear hM hb
    obtain ⟨bk, bv, ⟨bn, bb, bf⟩⟩ := b
    dsimp only at c0 c1 c2 c3 c4 e1
    subst e1
    generalize numP (segL M o n) = r at *
    obtain ⟨⟨rn, rb, rf⟩, r2⟩ := r
    have HN' := Lib.hid (fun W (hW : BytesAt W g M) => (show Calls Try.prog 48 #[.slice (some ⟨g, o * 5, none⟩) n cap] W (fun e w' => e = .returned (.tuple #[.agg #[.int .i64 rn, .int .i64 rb, .int .i64 rf], .bool r2]) ∧ W.grownBy w' none) from HN.out W hW))
    clear HN
    go_enter Try.func37, Try.ntmps37
    go_wp2_with fail
    refine (HN'.out _ (HM.out.gr (gr_alloc (gr_alloc (grownBy_refl w none) _) _) (by simp))).mono ?_
    rintro e w1 ⟨rfl, g1⟩
    have HX := Lib.hid ((HG0.out.alloc (.cells #[.int .i64 1, .int .u8 bv, .int .i64 bn, .int .i64 bb, .int .i64 bf] 67)).grown g1)
    clear g1
    obtain ⟨x0, x1, x2, f0, f1, f2, hz⟩ := Slot.reads HX.out
    go_wp2_with fail
    exact bodyPost_ret (v := .tuple #[.agg #[.int .i64 rn, .int .i64 rb, .int .i64 rf], .bool r2]) (by simp [results, Try.results37, go_sem, x0, x1, x2]) rfl ⟨by rw [HE.out]; rfl, by have := HX.out.gr; repeat (first | with_reducible exact grownBy_refl _ _ | with_reducible assumption | with_reducible refine World.grownBy.gr_drew ?_ | with_reducible refine World.grownBy.gr_set ?_ (by simp) _ | with_reducible refine gr_alloc ?_ _)⟩
  · by_cases e2 : b.k = 2
    · by_cases n1 : n = 1
      · have HE := Lib.hid (show decP b (segL M o n) = (b.p, true) from by unfold decP; rw [if_neg e1, if_pos ⟨e2, by rw [HSL.out]; exact n1⟩])
        have HM := Lib.hid hM
        clear hM hb
        obtain ⟨bk, bv, ⟨bn, bb, bf⟩⟩ := b
        dsimp only at c0 c1 c2 c3 c4 e1 e2
        subst e2
        subst n1
        clear e1
        go_enter Try.func37, Try.ntmps37
        go_wp2_with fail
        exact bodyPost_ret (v := .tuple #[.agg #[.int .i64 bn, .int .i64 bb, .int .i64 bf], .bool true]) (by simp [results, Try.results37, go_sem]) rfl ⟨by rw [HE.out]; rfl, by repeat (first | with_reducible exact grownBy_refl _ _ | with_reducible assumption | with_reducible refine World.grownBy.gr_drew ?_ | with_reducible refine World.grownBy.gr_set ?_ (by simp) _ | with_reducible refine gr_alloc ?_ _)⟩
      · by_cases n8 : n = 8
        · have HE := Lib.hid (show decP b (segL M o n) = ptrP b (segL M o n) from by unfold decP; rw [if_neg e1, if_neg (fun h => n1 (by rw [HSL.out] at h; exact h.2)), if_pos ⟨e2, by rw [HSL.out]; exact n8⟩])
          have HN := Lib.hid (fun W (hW : BytesAt W g M) => pointer_any g o n cap M W hW hn h1 h8 b hb)
          have HM := Lib.hid hM
          clear hM hb
          generalize hr : ptrP b (segL M o n) = r at *
          clear hr
          obtain ⟨bk, bv, ⟨bn, bb, bf⟩⟩ := b
          dsimp only at c0 c1 c2 c3 c4 e1 e2
          subst e2
          subst n8
          clear e1 n1
          obtain ⟨⟨rn, rb, rf⟩, r2⟩ := r
          have HN' := Lib.hid (fun W (hW : BytesAt W g M) => (show Calls Try.prog 49 #[.slice (some ⟨g, o * 5, none⟩) 8 cap] W (fun e w' => e = .returned (.tuple #[.agg #[.int .i64 rn, .int .i64 rb, .int .i64 rf], .bool r2]) ∧ W.grownBy w' none) from HN.out W hW))
          clear HN
          go_enter Try.func37, Try.ntmps37
          go_wp2_with fail
          refine (HN'.out _ (HM.out.gr (gr_alloc (gr_alloc (grownBy_refl w none) _) _) (by simp))).mono ?_
          rintro e w1 ⟨rfl, g1⟩
          have HX := Lib.hid ((HG0.out.alloc (.cells #[.int .i64 2, .int .u8 bv, .int .i64 bn, .int .i64 bb, .int .i64 bf] 67)).grown g1)
          clear g1
          obtain ⟨x0, x1, x2, f0, f1, f2, hz⟩ := Slot.reads HX.out
          go_wp2_with fail
          exact bodyPost_ret (v := .tuple #[.agg #[.int .i64 rn, .int .i64 rb, .int .i64 rf], .bool r2]) (by simp [results, Try.results37, go_sem, x0, x1, x2]) rfl ⟨by rw [HE.out]; rfl, by have := HX.out.gr; repeat (first | with_reducible exact grownBy_refl _ _ | with_reducible assumption | with_reducible refine World.grownBy.gr_drew ?_ | with_reducible refine World.grownBy.gr_set ?_ (by simp) _ | with_reducible refine gr_alloc ?_ _)⟩
        · have HE := Lib.hid (show decP b (segL M o n) = (val0, false) from by unfold decP; rw [if_neg e1, if_neg (fun h => n1 (by rw [HSL.out] at h; exact h.2)), if_neg (fun h => n8 (by rw [HSL.out] at h; exact h.2))])
          have HM := Lib.hid hM
          clear hM hb
          obtain ⟨bk, bv, ⟨bn, bb, bf⟩⟩ := b
          dsimp only at c0 c1 c2 c3 c4 e1 e2
          subst e2
          have f1 : ((n : Int) == 1) = false := by simp; omega
          have f8 : ((n : Int) == 8) = false := by simp; omega
          clear e1 n1 n8
          go_enter Try.func37, Try.ntmps37
          go_wp2_with fail
          exact bodyPost_ret (v := .tuple #[.agg #[.int .i64 0, .int .i64 0, .int .i64 0], .bool false]) (by simp [results, Try.results37, go_sem]) rfl ⟨by rw [HE.out]; rfl, by repeat (first | with_reducible exact grownBy_refl _ _ | with_reducible assumption | with_reducible refine World.grownBy.gr_drew ?_ | with_reducible refine World.grownBy.gr_set ?_ (by simp) _ | with_reducible refine gr_alloc ?_ _)⟩
    · have HE := Lib.hid (show decP b (segL M o n) = (val0, false) from by unfold decP; rw [if_neg e1, if_neg (fun h => e2 h.1), if_neg (fun h => e2 h.1)])
      have HM := Lib.hid hM
      clear hM hb
      obtain ⟨bk, bv, ⟨bn, bb, bf⟩⟩ := b
      dsimp only at c0 c1 c2 c3 c4 e1 e2
      have f1 : (bk == 1) = false := by simpa using e1
      have f2 : (bk == 2) = false := by simpa using e2
      clear e1 e2
      go_enter Try.func37, Try.ntmps37
      go_wp2_with fail
      exact bodyPost_ret (v := .tuple #[.agg #[.int .i64 0, .int .i64 0, .int .i64 0], .bool false]) (by simp [results, Try.results37, go_sem]) rfl ⟨by rw [HE.out]; rfl, by repeat (first | with_reducible exact grownBy_refl _ _ | with_reducible assumption | with_reducible refine World.grownBy.gr_drew ?_ | with_reducible refine World.grownBy.gr_set ?_ (by simp) _ | with_reducible refine gr_alloc ?_ _)⟩

end Go.Proofs.Ytblhnjoophhliaa
