/- mem: decode. -/
import Derived.Test.YtblhnjoophhliaaM3
namespace Go.Proofs.Ytblhnjoophhliaa
open Go.RowKit
/-- What bytes encode, the least significant one first. -/
def sumN : List Byt → Nat
  | [] => 0
  | b :: r => b.v.toNat + 256 * sumN r
/-- All bytes hold a byte. -/
def Byts (M : List Byt) : Prop := ∀ b ∈ M, 0 ≤ b.v ∧ b.v < 256
theorem sumN_lt : ∀ {l : List Byt}, Byts l → sumN l < 256 ^ l.length
  | [], _ => by simp [sumN]
  | b :: r, h => by
    have h1 := h b (by simp)
    have h2 := sumN_lt (l := r) fun x hx => h x (by simp [hx])
    show b.v.toNat + 256 * sumN r < 256 ^ (r.length + 1)
    rw [Nat.pow_succ]
    omega
theorem sumN_snoc : ∀ (l : List Byt) (b : Byt), sumN (l ++ [b]) = sumN l + 256 ^ l.length * b.v.toNat
  | [], b => by simp [sumN]
  | x :: r, b => by
    show x.v.toNat + 256 * sumN (r ++ [b]) = x.v.toNat + 256 * sumN r + 256 ^ (r.length + 1) * b.v.toNat
    rw [sumN_snoc r b, Nat.mul_add, Nat.pow_succ]
    have : 256 * (256 ^ r.length * b.v.toNat) = 256 ^ r.length * 256 * b.v.toNat := by rw [← Nat.mul_assoc, Nat.mul_comm 256]
    omega
theorem pow256 (k : Nat) : 256 ^ k = 2 ^ (8 * k) := by rw [Nat.pow_mul]
theorem or_step {S V k : Nat} (hk : k ≤ 7) (hS : S < 256 ^ k) (hV : V < 256) :
    bits .or .u64 (S : Int) (IntKind.u64.wrap ((V : Int) * 2 ^ (8 * k))) = ((S + 256 ^ k * V : Nat) : Int) := by
  rw [pow256] at *
  have hp : 2 ^ (8 * k) ≤ 2 ^ 56 := Nat.pow_le_pow_right (by omega) (by omega)
  have hle : 2 ^ (8 * k) * V + S < 2 ^ 64 := by
    have h1 : 2 ^ (8 * k) * V ≤ 2 ^ (8 * k) * 255 := Nat.mul_le_mul_left _ (by omega)
    omega
  have hc : (V : Int) * 2 ^ (8 * k) = ((2 ^ (8 * k) * V : Nat) : Int) := by push_cast; rw [Int.mul_comm]
  have hw : IntKind.u64.wrap ((V : Int) * 2 ^ (8 * k)) = ((2 ^ (8 * k) * V : Nat) : Int) := by
    rw [hc, IntKind.wrap_u64]; omega
  rw [hw]
  show IntKind.u64.wrap (((BitVec.ofInt 64 (S : Int) ||| BitVec.ofInt 64 ((2 ^ (8 * k) * V : Nat) : Int)).toNat : Nat) : Int) = _
  rw [BitVec.toNat_or, BitVec.ofInt_natCast, BitVec.ofInt_natCast, BitVec.toNat_ofNat, BitVec.toNat_ofNat]
  rw [Nat.mod_eq_of_lt (by omega), Nat.mod_eq_of_lt (by omega), Nat.or_comm, ← Nat.two_pow_add_eq_or_of_lt hS, IntKind.wrap_u64]
  omega
def allN (l : List Byt) : Bool := l.all fun b => decide (b.k = 1)
def sgnI (n : Nat) (s : Nat) : Int := if n = 4 then wrap64 (wrap32 s) else wrap64 s
def numP (l : List Byt) : Val × Bool := if allN l = true then (⟨sgnI l.length (sumN l), 0, 0⟩, true) else (val0, false)
def segL (M : List Byt) (o n : Nat) : List Byt := (M.drop o).take n
theorem seg_len {M : List Byt} {o n : Nat} (h : o + n ≤ M.length) : (segL M o n).length = n := by unfold segL; rw [List.length_take, List.length_drop]; omega
theorem seg_succ {M : List Byt} {o k : Nat} {x : Byt} (h : M[o + k]? = some x) : segL M o (k + 1) = segL M o k ++ [x] := by
  unfold segL
  rw [List.take_add_one, List.getElem?_drop, h]
  rfl
theorem seg_at {M : List Byt} {o n k : Nat} (hk : k < n) : (segL M o n)[k]? = M[o + k]? := by
  unfold segL
  rw [List.getElem?_take, if_pos hk, List.getElem?_drop]
theorem seg_byts {M : List Byt} (h : Byts M) (o n : Nat) : Byts (segL M o n) := fun b hb => h b (List.mem_of_mem_drop (List.mem_of_mem_take hb))
/-- The three cells of a result of the call's own. -/
structure Slot (w wr : World) (v : Val) : Prop where
  box : VBox wr w.heap.size v
  gr : w.grownBy wr none
theorem Slot.reads {w wr : World} {n b f : Int} (h : Slot w wr ⟨n, b, f⟩) : wr.cell? ⟨w.heap.size, 0, none⟩ = some (.int .i64 n) ∧ wr.cell? ⟨w.heap.size, 1, none⟩ = some (.int .i64 b) ∧ wr.cell? ⟨w.heap.size, 2, none⟩ = some (.int .i64 f) ∧
    wr.frozen? ⟨w.heap.size, 0, none⟩ = false ∧ wr.frozen? ⟨w.heap.size, 1, none⟩ = false ∧ wr.frozen? ⟨w.heap.size, 2, none⟩ = false ∧ w.heap.size < wr.heap.size :=
  ⟨h.box.cells.1, h.box.cells.2.1, h.box.cells.2.2, h.box.froz 0, h.box.froz 1, h.box.froz 2, lt_of_heap h.box⟩
theorem Slot.new (w : World) (v : Val) : Slot w (w.alloc (.cells (valC v) 29)) v := ⟨VBox.new w v, gr_alloc (grownBy_refl _ _) _⟩
theorem Slot.grown {w a b : World} {v : Val} (h : Slot w a v) (g : a.grownBy b none) : Slot w b v := ⟨h.box.gr g (by simp), grownBy_trans h.gr g⟩
theorem Slot.alloc {w a : World} {v : Val} (h : Slot w a v) (o : Obj) : Slot w (a.alloc o) v := h.grown (gr_alloc (grownBy_refl _ _) o)
theorem Slot.drew {w a : World} {v : Val} (h : Slot w a v) : Slot w a.drew v := ⟨h.box, h.gr.gr_drew⟩
set_option maxRecDepth 100000 in
set_option maxHeartbeats 4000000 in
theorem number_any (g o n cap : Nat) (M : List Byt) (w : World) (hM : BytesAt w g M) (hn : o + n ≤ M.length) (h8 : n ≤ 8) (hb : Byts M) :
    Calls Try.prog 48 #[.slice (some ⟨g, o * 5, none⟩) n cap] w fun e w' => e = .returned (.tuple #[valV (numP (segL M o n)).1, .bool (numP (segL M o n)).2]) ∧ w.grownBy w' none := by
  have hgw : g < w.heap.size := hM.lt
  have HM := Lib.hid hM
  clear hM
  go_enter Try.func48, Try.ntmps48
  go_wp2_with fail
  have HX1 := Lib.hid (Slot.new w val0)
  go_loopw [4, 9] (fun s i wr => ∃ k : Nat, k ≤ n ∧ i = .int .i64 k ∧ s = .int .u64 (sumN (segL M o k)) ∧ allN (segL M o k) = true ∧ Slot w wr val0) (fun _ i _ => n - (intOf i).toNat)
  case atStart => exact ⟨0, Nat.zero_le _, rfl, rfl, rfl, HX1.out⟩
  case round =>
    obtain ⟨k, hk, rfl, rfl, hA, hX⟩ := hrel
    have HA := Lib.hid hA
    have HX := Lib.hid hX
    have HB := Lib.hid (HM.out.gr hX.gr (by simp))
    clear hX hA
    obtain ⟨x0, x1, x2, f0, f1, f2, hz⟩ := Slot.reads HX.out
    by_cases hlt : k < n
    · obtain ⟨x, hx, c0, c1, c2, c3, c4, z0, z1, z2, z3, z4⟩ := HB.out.open5 (o := o) (k := k) (by omega)
      have hv := hb x (List.mem_of_getElem? hx)
      have hv0 := hv.1
      have hv1 := hv.2
      have HXM := Lib.hid hx
      have HS0 := Lib.hid (sumN_lt (seg_byts hb o k))
      have HSL := Lib.hid (seg_len (M := M) (o := o) (n := k) (by omega))
      have HSS := Lib.hid (seg_succ hx)
      have HSn := Lib.hid (sumN_snoc (segL M o k) x)
      generalize hS : sumN (segL M o k) = S at HS0 HSn ⊢
      clear hx hv hS z0 z1 z2 z3 z4
      by_cases e1 : x.k = 1
      · go_wp2_with fail
        go_roundw
        case rel =>
          refine ⟨k + 1, by omega, by go_num, ?_, ?_, HX.out.alloc _⟩
          · rw [HSS.out, HSn.out, HSL.out, show x.v = ((x.v.toNat : Nat) : Int) by omega, or_step (by omega) (by have := HS0.out; rwa [HSL.out] at this) (by omega)]
            simp
          · rw [HSS.out]
            have := HA.out
            unfold allN at *
            simp only [List.all_append, this, Bool.true_and]
            simp [e1]
        case measure => simp [intOf]; omega
      · have HE := Lib.hid (show numP (segL M o n) = (val0, false) from by
          unfold numP
          rw [if_neg]
          intro h
          have := List.all_eq_true.1 h x (List.mem_of_getElem? ((seg_at (n := n) hlt).trans HXM.out))
          simp at this
          exact e1 this)
        have e1 : (x.k != 1) = true := by simpa using e1
        go_wp2_with fail
        exact bodyPost_ret (v := .tuple #[.agg #[.int .i64 0, .int .i64 0, .int .i64 0], .bool false]) (by simp [results, Try.results48, go_sem, x0, x1, x2, hz]) rfl ⟨by rw [HE.out]; rfl, by have := HX.out.gr; repeat (first | with_reducible exact grownBy_refl _ _ | with_reducible assumption | with_reducible refine World.grownBy.gr_drew ?_ | with_reducible refine World.grownBy.gr_set ?_ (by simp) _ | with_reducible refine gr_alloc ?_ _)⟩
    · have e : k = n := by omega
      subst e
      clear hlt
      have HE := Lib.hid (show numP (segL M o k) = (⟨sgnI k (sumN (segL M o k)), 0, 0⟩, true) from by
          unfold numP
          rw [if_pos HA.out, seg_len hn])
      by_cases e4 : k = 4
      · subst e4
        have HK := Lib.hid (show sgnI 4 (sumN (segL M o 4)) = wrap64 (wrap32 (sumN (segL M o 4))) from by unfold sgnI; rw [if_pos rfl])
        go_wp2_with fail
        refine bodyPost_ret (v := .tuple #[.agg #[.int .i64 (wrap64 (wrap32 (sumN (segL M o 4)))), .int .i64 0, .int .i64 0], .bool true]) (by simp [results, Try.results48, go_sem, x0, x1, x2]) rfl ⟨?_, by have := HX.out.gr; repeat (first | with_reducible exact grownBy_refl _ _ | with_reducible assumption | with_reducible refine World.grownBy.gr_drew ?_ | with_reducible refine World.grownBy.gr_set ?_ (by simp) _ | with_reducible refine gr_alloc ?_ _)⟩
        rw [HE.out, HK.out]
        rfl
      · have HK := Lib.hid (show sgnI k (sumN (segL M o k)) = wrap64 (sumN (segL M o k)) from by unfold sgnI; rw [if_neg e4])
        have e4 : ((k : Int) == 4) = false := by simp; omega
        go_wp2_with fail
        exact bodyPost_ret (v := .tuple #[.agg #[.int .i64 (wrap64 (sumN (segL M o k))), .int .i64 0, .int .i64 0], .bool true]) (by simp [results, Try.results48, go_sem, x0, x1, x2]) rfl ⟨by rw [HE.out, HK.out]; rfl, by have := HX.out.gr; repeat (first | with_reducible exact grownBy_refl _ _ | with_reducible assumption | with_reducible refine World.grownBy.gr_drew ?_ | with_reducible refine World.grownBy.gr_set ?_ (by simp) _ | with_reducible refine gr_alloc ?_ _)⟩

end Go.Proofs.Ytblhnjoophhliaa
