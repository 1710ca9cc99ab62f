/- slices.Backward over numbers told by g. -/
import Derived.Test.YtneehdjaaofjaaaEb
import Derived.RangeFuncNested
import Derived.RangeFuncBound
import Derived.RangeFuncCalls
import Derived.RangeFuncLeaves
import Derived.RangeFuncBox
import Derived.Shelf.Abstract
import Derived.Shelf.RegionOpen
import Derived.WalkKit
import Derived.OwnWalkIn
import Derived.TacticsInMore
import Derived.LoopNIn
import Derived.LoopIn
namespace Go.Proofs.Ytneehdjaaofjaaa
open Go.RowKit
open Go.Shelf
attribute [local go_sem] Oper.semAt_some
/-- What comes in round k: the place from behind, and what stands there. -/
def backP (zs : List Nat) (k : Nat) : Nat × Nat := (zs.length - 1 - k, zs[zs.length - 1 - k]?.getD 0)
theorem backP_at (zs : List Nat) {k m : Nat} (h : k + m + 1 = zs.length) : backP zs k = (m, zs[m]?.getD 0) := by
  unfold backP
  rw [show zs.length - 1 - k = m by omega]
set_option maxRecDepth 100000 in
set_option maxHeartbeats 2000000 in
theorem back1P_in (F : Fence) (n : Nat) (hf : F.fn 38) (hro : F.round = none) (hn : 1 ≤ n) (l Bs b cap : Nat) (S : Nat → Prop) (g : Nat → Int) (zs : List Nat) (hreach : zs.length * 8 ≤ 140737488351232) (hb : S b) (J Jx : List (Nat × Nat) → World → Prop)
    (hY : ∀ pre x W, J pre W → pre.length < zs.length → YieldAt F (n - 1) Try.prog l #[.int .i64 (x.1 : Int), .int .i64 (g x.2)] W fun e W' =>
      (e = .returned (.bool true) ∧ J (pre ++ [x]) W' ∧ KeepsOn S W W') ∨ (e = .returned (.bool false) ∧ Jx (pre ++ [x]) W'))
    (W : World) (hBs : W.cell? ⟨Bs, 0, none⟩ = some (.slice (some ⟨b, 0, none⟩) zs.length cap)) (hBl : S Bs) (hc : ∀ j, j < zs.length → W.cell? ⟨b, j, none⟩ = some (.int .i64 (g (zs[j]?.getD 0)))) (h0 : J [] W) :
    CallsIn F n Try.prog 38 #[.func (.yield l) #[] #[], .pointer (some ⟨Bs, 0, none⟩)] W fun e W' => (∃ v, e = .returned v) ∧
      ((∃ ys, ys = upto (backP zs) zs.length ∧ J ys W') ∨ (∃ pre, (∃ k, k ≤ zs.length ∧ pre = upto (backP zs) k) ∧ Jx pre W')) := by
  have hw0 : IntKind.i64.wrap ((zs.length : Int) - 1) = (zs.length : Int) - 1 := by rw [IntKind.wrap_i64]; omega
  refine callsIn_of_wp Try.func38 rfl hf ?_ hro
  simp only [Try.ntmps38, List.size_toArray, List.length_cons, List.length_nil, Nat.reduceAdd, Nat.reduceSub, Array.replicate_succ, Array.replicate_zero, List.push_toArray, List.append_toArray, List.nil_append, List.cons_append]
  gi_wp2
  gi_loopw [3] (fun i wr => (∃ k m : Nat, k + m + 1 = zs.length ∧ i = .int .i64 (m : Int) ∧ J (upto (backP zs) k) wr ∧ KeepsOn S W wr) ∨ (i = .int .i64 (-1) ∧ J (upto (backP zs) zs.length) wr ∧ KeepsOn S W wr))
    (fun i _ => (intOf i + 1).toNat)
  case atStart =>
    by_cases hz : zs.length = 0
    · exact .inr ⟨by rw [hz]; rfl, by rw [hz]; exact h0, KeepsOn.refl _ _⟩
    · exact .inl ⟨0, zs.length - 1, by omega, by congr 1; omega, h0, KeepsOn.refl _ _⟩
  case round =>
    rcases hrel with ⟨k, m, hkm, rfl, hJs, hnx⟩ | ⟨rfl, hJs, hnx⟩
    · have hcx : wr.cell? ⟨b, m, none⟩ = some (.int .i64 (g (zs[m]?.getD 0))) := hnx.cell (p := ⟨b, m, none⟩) hb (hc m (by omega))
      have hbx := hnx.cell (p := ⟨Bs, 0, none⟩) hBl hBs
      obtain ⟨fn, tmps, assign, body, hy, hR⟩ := hY _ (m, zs[m]?.getD 0) wr hJs (by rw [upto_length]; omega)
      dsimp only at hy
      have g0 : decide ((0 : Int) ≤ (m : Int)) = true := by simp
      have hml : (m : Int) < (zs.length : Int) := by omega
      have hw1 : IntKind.i64.wrap ((m : Int) - 1) = (m : Int) - 1 := by rw [IntKind.wrap_i64]; omega
      gi_wp2
      refine hR.mono ?_
      rintro e W3 (⟨rfl, hJ3, hk3⟩ | ⟨rfl, hJx3⟩)
      · gi_wp2
        go_roundw
        case rel =>
          rw [← backP_at zs hkm, ← upto_succ] at hJ3
          by_cases hm : m = 0
          · subst hm
            exact .inr ⟨rfl, by rw [show zs.length = k + 1 by omega]; exact hJ3, hnx.trans hk3⟩
          · exact .inl ⟨k + 1, m - 1, by omega, by congr 1; omega, hJ3, hnx.trans hk3⟩
        case measure => simp [intOf]
      · gi_wp2
        refine bodyPost_ret (results_none rfl _ _ _) rfl ?_
        rw [← backP_at zs hkm, ← upto_succ] at hJx3
        exact ⟨⟨_, rfl⟩, .inr ⟨_, ⟨k + 1, by omega, rfl⟩, hJx3⟩⟩
    · gi_wp2
      go_end0
      exact ⟨⟨_, rfl⟩, .inl ⟨_, rfl, hJs⟩⟩
set_option maxRecDepth 100000 in
set_option maxHeartbeats 1000000 in
/-- .. at the nil slice: no round. -/
theorem back1P_nil_in (F : Fence) (n : Nat) (hf : F.fn 38) (hro : F.round = none) (l Bs : Nat) (J : List (Nat × Nat) → World → Prop) (W : World) (hBs : W.cell? ⟨Bs, 0, none⟩ = some (.slice none 0 0)) (h0 : J [] W) :
    CallsIn F n Try.prog 38 #[.func (.yield l) #[] #[], .pointer (some ⟨Bs, 0, none⟩)] W fun e W' => (∃ v, e = .returned v) ∧ J [] W' := by
  refine callsIn_of_wp Try.func38 rfl hf ?_ hro
  simp only [Try.ntmps38, List.size_toArray, List.length_cons, List.length_nil, Nat.reduceAdd, Nat.reduceSub, Array.replicate_succ, Array.replicate_zero, List.push_toArray, List.append_toArray, List.nil_append, List.cons_append]
  gi_wp2
  gi_loopw [3] (fun i wr => i = .int .i64 (-1) ∧ J [] wr) (fun _ _ => 0)
  case atStart => exact ⟨rfl, h0⟩
  case round =>
    obtain ⟨rfl, hJs⟩ := hrel
    gi_wp2
    go_end0
    exact ⟨⟨_, rfl⟩, hJs⟩
/-- The slice value holds the ints zs, in a block that S names; or it is nil and there are none. -/
def IntsP (g : Nat → Int) (S : Nat → Prop) (W : World) (sv : Value) (zs : List Nat) : Prop :=
  (sv = .slice none 0 0 ∧ zs = []) ∨ ∃ b cap, sv = .slice (some ⟨b, 0, none⟩) zs.length cap ∧ S b ∧ ∀ j, j < zs.length → W.cell? ⟨b, j, none⟩ = some (.int .i64 (g (zs[j]?.getD 0)))
theorem IntsP.kept {g : Nat → Int} {S : Nat → Prop} {A B : World} (h : KeepsOn S A B) {sv : Value} {zs : List Nat} : IntsP g S A sv zs → IntsP g S B sv zs
  | .inl e => .inl e
  | .inr ⟨b, cap, e, hb, hc⟩ => .inr ⟨b, cap, e, hb, fun j hj => h.cell (p := ⟨b, j, none⟩) hb (hc j hj)⟩
/-- What slices.Backward hands back goes through all of zs, from behind; or through a part. -/
theorem backwardP_stops (F : Fence) (n : Nat) (hf : F.fn 38) (hro : F.round = none) (hn : 1 ≤ n) (Bs : Nat) (S : Nat → Prop) (sv : Value) (g : Nat → Int) (zs : List Nat) (hreach : zs.length * 8 ≤ 140737488351232) (w : World) (hBs : S Bs)
    (hc : w.cell? ⟨Bs, 0, none⟩ = some sv) (hI : IntsP g S w sv zs) :
    SeqStopsK F n Try.prog 38 #[.pointer (some ⟨Bs, 0, none⟩)] (fun x : Nat × Nat => #[Value.int .i64 (x.1 : Int), Value.int .i64 (g x.2)]) (KeepsOn S) (fun ys => ys = upto (backP zs) zs.length)
      (fun pre => ∃ k, k ≤ zs.length ∧ pre = upto (backP zs) k) zs.length w := fun l J Jx W hW _ _ hY h0 => by
  have hK : KeepsOn S w W := ⟨hW.size, fun g _ hg => hW.block g hg⟩
  have hc' := hK.cell hBs hc
  rcases hI.kept hK with ⟨rfl, rfl⟩ | ⟨b, cap, rfl, hb, hcs⟩
  · exact (back1P_nil_in F n hf hro l Bs J W hc' h0).mono fun e W' ⟨he, hj⟩ => ⟨he, .inl ⟨_, rfl, hj⟩⟩
  · exact back1P_in F n hf hro hn l Bs b cap S g zs hreach hb J Jx hY W hc' hBs hcs h0

end Go.Proofs.Ytneehdjaaofjaaa
