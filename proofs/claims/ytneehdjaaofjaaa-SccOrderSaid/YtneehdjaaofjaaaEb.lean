/- slices.Backward over ints. -/
import Derived.Test.YtneehdjaaofjaaaZ0
import Derived.RangeFuncNested
import Derived.RangeFuncBound
import Derived.RangeFuncCalls
import Derived.RangeFuncLeaves
import Derived.RangeFuncBox
import Derived.Shelf.Abstract
import Derived.Shelf.RegionOpen
import Derived.WalkKit
import Derived.OwnWalkIn
import Derived.TacticsInMore
import Derived.LoopNIn
import Derived.LoopIn
namespace Go.Proofs.Ytneehdjaaofjaaa
open Go.RowKit
open Go.Shelf
attribute [local go_sem] Oper.semAt_some
def upto {α : Type} (f : Nat → α) (k : Nat) : List α := (List.range k).map f
theorem upto_succ {α : Type} (f : Nat → α) (k : Nat) : upto f (k + 1) = upto f k ++ [f k] := by simp [upto, List.range_succ]
theorem upto_length {α : Type} (f : Nat → α) (k : Nat) : (upto f k).length = k := by simp [upto]
/-- What comes in round k: the place from behind, and what stands there. -/
def backOf (zs : List Int) (k : Nat) : Nat × Int := (zs.length - 1 - k, zs[zs.length - 1 - k]?.getD 0)
theorem backOf_at (zs : List Int) {k m : Nat} (h : k + m + 1 = zs.length) : backOf zs k = (m, zs[m]?.getD 0) := by
  unfold backOf
  rw [show zs.length - 1 - k = m by omega]
/-- B has A's blocks that S names. -/
def KeepsOn (S : Nat → Prop) (A B : World) : Prop := A.heap.size ≤ B.heap.size ∧ ∀ g, S g → g < A.heap.size → B.heap[g]? = A.heap[g]?
theorem KeepsOn.refl (S : Nat → Prop) (A : World) : KeepsOn S A A := ⟨Nat.le_refl _, fun _ _ _ => rfl⟩
theorem KeepsOn.trans {S : Nat → Prop} {A B C : World} (h : KeepsOn S A B) (k : KeepsOn S B C) : KeepsOn S A C :=
  ⟨Nat.le_trans h.1 k.1, fun g hs hg => (k.2 g hs (Nat.lt_of_lt_of_le hg h.1)).trans (h.2 g hs hg)⟩
theorem KeepsOn.cell {S : Nat → Prop} {A B : World} (h : KeepsOn S A B) {p : Addr} {v : Value} (hs : S p.block) (hc : A.cell? p = some v) : B.cell? p = some v :=
  (World.cell?_of_block (h.2 _ hs (World.block_lt_of_cell? A p hc))).trans hc
theorem KeepsOn.putObj {S : Nat → Prop} {A : World} {l : Nat} (hl : ¬ S l) (o : Obj) : KeepsOn S A (A.putObj l o) :=
  ⟨by simp, fun g hs _ => World.putObj_heap_other (fun e => hl (e ▸ hs))⟩
set_option maxRecDepth 100000 in
set_option maxHeartbeats 2000000 in
theorem back1_in (F : Fence) (n : Nat) (hf : F.fn 38) (hro : F.round = none) (hn : 1 ≤ n) (l Bs b cap : Nat) (S : Nat → Prop) (zs : List Int) (hreach : zs.length * 8 ≤ 140737488351232) (hb : S b) (J Jx : List (Nat × Int) → World → Prop)
    (hY : ∀ pre x W, J pre W → pre.length < zs.length → YieldAt F (n - 1) Try.prog l #[.int .i64 (x.1 : Int), .int .i64 x.2] W fun e W' =>
      (e = .returned (.bool true) ∧ J (pre ++ [x]) W' ∧ KeepsOn S W W') ∨ (e = .returned (.bool false) ∧ Jx (pre ++ [x]) W'))
    (W : World) (hBs : W.cell? ⟨Bs, 0, none⟩ = some (.slice (some ⟨b, 0, none⟩) zs.length cap)) (hBl : S Bs) (hc : ∀ j, j < zs.length → W.cell? ⟨b, j, none⟩ = some (.int .i64 (zs[j]?.getD 0))) (h0 : J [] W) :
    CallsIn F n Try.prog 38 #[.func (.yield l) #[] #[], .pointer (some ⟨Bs, 0, none⟩)] W fun e W' => (∃ v, e = .returned v) ∧
      ((∃ ys, ys = upto (backOf zs) zs.length ∧ J ys W') ∨ (∃ pre, (∃ k, k ≤ zs.length ∧ pre = upto (backOf zs) k) ∧ Jx pre W')) := by
  have hw0 : IntKind.i64.wrap ((zs.length : Int) - 1) = (zs.length : Int) - 1 := by rw [IntKind.wrap_i64]; omega
  refine callsIn_of_wp Try.func38 rfl hf ?_ hro
  simp only [Try.ntmps38, List.size_toArray, List.length_cons, List.length_nil, Nat.reduceAdd, Nat.reduceSub, Array.replicate_succ, Array.replicate_zero, List.push_toArray, List.append_toArray, List.nil_append, List.cons_append]
  gi_wp2
  gi_loopw [3] (fun i wr => (∃ k m : Nat, k + m + 1 = zs.length ∧ i = .int .i64 (m : Int) ∧ J (upto (backOf zs) k) wr ∧ KeepsOn S W wr) ∨ (i = .int .i64 (-1) ∧ J (upto (backOf zs) zs.length) wr ∧ KeepsOn S W wr))
    (fun i _ => (intOf i + 1).toNat)
  case atStart =>
    by_cases hz : zs.length = 0
    · exact .inr ⟨by rw [hz]; rfl, by rw [hz]; exact h0, KeepsOn.refl _ _⟩
    · exact .inl ⟨0, zs.length - 1, by omega, by congr 1; omega, h0, KeepsOn.refl _ _⟩
  case round =>
    rcases hrel with ⟨k, m, hkm, rfl, hJs, hnx⟩ | ⟨rfl, hJs, hnx⟩
    · have hcx : wr.cell? ⟨b, m, none⟩ = some (.int .i64 (zs[m]?.getD 0)) := hnx.cell (p := ⟨b, m, none⟩) hb (hc m (by omega))
      have hbx := hnx.cell (p := ⟨Bs, 0, none⟩) hBl hBs
      obtain ⟨fn, tmps, assign, body, hy, hR⟩ := hY _ (m, zs[m]?.getD 0) wr hJs (by rw [upto_length]; omega)
      dsimp only at hy
      have g0 : decide ((0 : Int) ≤ (m : Int)) = true := by simp
      have hml : (m : Int) < (zs.length : Int) := by omega
      have hw1 : IntKind.i64.wrap ((m : Int) - 1) = (m : Int) - 1 := by rw [IntKind.wrap_i64]; omega
      gi_wp2
      refine hR.mono ?_
      rintro e W3 (⟨rfl, hJ3, hk3⟩ | ⟨rfl, hJx3⟩)
      · gi_wp2
        go_roundw
        case rel =>
          rw [← backOf_at zs hkm, ← upto_succ] at hJ3
          by_cases hm : m = 0
          · subst hm
            exact .inr ⟨rfl, by rw [show zs.length = k + 1 by omega]; exact hJ3, hnx.trans hk3⟩
          · exact .inl ⟨k + 1, m - 1, by omega, by congr 1; omega, hJ3, hnx.trans hk3⟩
        case measure => simp [intOf]
      · gi_wp2
        refine bodyPost_ret (results_none rfl _ _ _) rfl ?_
        rw [← backOf_at zs hkm, ← upto_succ] at hJx3
        exact ⟨⟨_, rfl⟩, .inr ⟨_, ⟨k + 1, by omega, rfl⟩, hJx3⟩⟩
    · gi_wp2
      go_end0
      exact ⟨⟨_, rfl⟩, .inl ⟨_, rfl, hJs⟩⟩
set_option maxRecDepth 100000 in
set_option maxHeartbeats 1000000 in
/-- .. at the nil slice: no round. -/
theorem back1_nil_in (F : Fence) (n : Nat) (hf : F.fn 38) (hro : F.round = none) (l Bs : Nat) (J : List (Nat × Int) → World → Prop) (W : World) (hBs : W.cell? ⟨Bs, 0, none⟩ = some (.slice none 0 0)) (h0 : J [] W) :
    CallsIn F n Try.prog 38 #[.func (.yield l) #[] #[], .pointer (some ⟨Bs, 0, none⟩)] W fun e W' => (∃ v, e = .returned v) ∧ J [] W' := by
  refine callsIn_of_wp Try.func38 rfl hf ?_ hro
  simp only [Try.ntmps38, List.size_toArray, List.length_cons, List.length_nil, Nat.reduceAdd, Nat.reduceSub, Array.replicate_succ, Array.replicate_zero, List.push_toArray, List.append_toArray, List.nil_append, List.cons_append]
  gi_wp2
  gi_loopw [3] (fun i wr => i = .int .i64 (-1) ∧ J [] wr) (fun _ _ => 0)
  case atStart => exact ⟨rfl, h0⟩
  case round =>
    obtain ⟨rfl, hJs⟩ := hrel
    gi_wp2
    go_end0
    exact ⟨⟨_, rfl⟩, hJs⟩
set_option maxHeartbeats 1000000 in
/-- slices.Backward: the slice value is boxed; the function value captures the box. -/
theorem backward_in (F : Fence) (n : Nat) (hf : F.fn 32) (hro : F.round = none) (a : Option Addr) (len cap : Nat) (w : World) :
    CallsIn F n Try.prog 32 #[.slice a len cap] w fun e w' => e = .returned (.func (.func 38) #[] #[.pointer (some ⟨w.heap.size, 0, none⟩)]) ∧ w' = w.alloc (.cells #[.slice a len cap] 27) := by
  refine callsIn_of_wp Try.func32 rfl hf ?_ hro
  simp only [Try.ntmps32, List.size_toArray, List.length_cons, List.length_nil, Nat.reduceAdd, Nat.reduceSub, Array.replicate_succ, Array.replicate_zero, List.push_toArray, List.append_toArray, List.nil_append, List.cons_append]
  gi_wp2
  go_ret
  exact ⟨rfl, rfl⟩
/-- The slice value holds the ints zs, in a block that S names; or it is nil and there are none. -/
def IntsB (S : Nat → Prop) (W : World) (sv : Value) (zs : List Int) : Prop :=
  (sv = .slice none 0 0 ∧ zs = []) ∨ ∃ b cap, sv = .slice (some ⟨b, 0, none⟩) zs.length cap ∧ S b ∧ ∀ j, j < zs.length → W.cell? ⟨b, j, none⟩ = some (.int .i64 (zs[j]?.getD 0))
theorem IntsB.kept {S : Nat → Prop} {A B : World} (h : KeepsOn S A B) {sv : Value} {zs : List Int} : IntsB S A sv zs → IntsB S B sv zs
  | .inl e => .inl e
  | .inr ⟨b, cap, e, hb, hc⟩ => .inr ⟨b, cap, e, hb, fun j hj => h.cell (p := ⟨b, j, none⟩) hb (hc j hj)⟩
/-- What slices.Backward hands back goes through all of zs, from behind; or through a part. -/
theorem backward_stops (F : Fence) (n : Nat) (hf : F.fn 38) (hro : F.round = none) (hn : 1 ≤ n) (Bs : Nat) (S : Nat → Prop) (sv : Value) (zs : List Int) (hreach : zs.length * 8 ≤ 140737488351232) (w : World) (hBs : S Bs)
    (hc : w.cell? ⟨Bs, 0, none⟩ = some sv) (hI : IntsB S w sv zs) :
    SeqStopsK F n Try.prog 38 #[.pointer (some ⟨Bs, 0, none⟩)] (fun x : Nat × Int => #[Value.int .i64 (x.1 : Int), Value.int .i64 x.2]) (KeepsOn S) (fun ys => ys = upto (backOf zs) zs.length)
      (fun pre => ∃ k, k ≤ zs.length ∧ pre = upto (backOf zs) k) zs.length w := fun l J Jx W hW _ _ hY h0 => by
  have hK : KeepsOn S w W := ⟨hW.size, fun g _ hg => hW.block g hg⟩
  have hc' := hK.cell hBs hc
  rcases hI.kept hK with ⟨rfl, rfl⟩ | ⟨b, cap, rfl, hb, hcs⟩
  · exact (back1_nil_in F n hf hro l Bs J W hc' h0).mono fun e W' ⟨he, hj⟩ => ⟨he, .inl ⟨_, rfl, hj⟩⟩
  · exact back1_in F n hf hro hn l Bs b cap S zs hreach hb J Jx hY W hc' hBs hcs h0

end Go.Proofs.Ytneehdjaaofjaaa
