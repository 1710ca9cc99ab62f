/- container/heap: Push, Pop; add, take. -/
import Derived.Test.YtneehdjaaofjaaaEp
import Derived.Deep.DeepCutAuto
import Derived.Handy
namespace Go.Proofs.Ytneehdjaaofjaaa
open Go.RowKit
/-- The heap at m holds the numbers L, the least ahead. -/
structure Heap (W : World) (m : Nat) (v : Value) (L : List Int) : Prop where
  made ::
  at_ : HpV W m v L
  hp : HpN L L.length
theorem Heap.first {W : World} {m : Nat} (h : W.heap[m]? = some (.cells #[.slice none 0 0] 49 (0, 0))) : Heap W m (.slice none 0 0) [] := ⟨⟨h, OwN.nil _ _⟩, fun k h0 hk => by simp at hk⟩
theorem upI_push {L : List Int} {x : Int} (h : HpN L L.length) : UpI (L ++ [x]) L.length := by
  have hg : ∀ k, k < L.length → gI (L ++ [x]) k = gI L k := fun k hk => by
    unfold gI
    rw [List.getElem?_append_left hk]
  refine ⟨by simp, fun k h0 hk hne => ?_, fun k h0 hk hp _ => ?_⟩
  · rw [List.length_append, List.length_singleton] at hk
    rw [hg _ (by omega), hg _ (by omega)]
    exact h k h0 (by omega)
  · rw [List.length_append, List.length_singleton] at hk
    omega
set_option maxRecDepth 100000 in
set_option maxHeartbeats 4000000 in
theorem add_any (m : Nat) (v : Value) (L : List Int) (x : Int) (W : World) (h : Heap W m v L) (hl : L.length ≤ 100000) :
    Calls Try.prog 24 #[.pointer (some ⟨m, 0, none⟩), .int .i64 x] W fun e w' => ∃ (v' : Value) (L' : List Int), e = .returned (.tuple #[]) ∧ L'.Perm (L ++ [x]) ∧ Heap w' m v' L' ∧ HpT W w' m v v' := by
  have H := Lib.hid h
  clear h
  have HPU := Lib.hid (show Calls Try.prog 33 #[.iface 46 (.pointer (some ⟨m, 0, none⟩)), .iface 3 (.int .i64 x)] W (fun e w' => ∃ (v' : Value) (L' : List Int), e = .returned (.tuple #[]) ∧ L'.Perm (L ++ [x]) ∧ Heap w' m v' L' ∧ HpT W w' m v v') from by
    have hmp := meth_push (.pointer (some ⟨m, 0, none⟩)) W
    go_enter Try.func33, Try.ntmps33
    go_wp2_with fail
    refine (srPush_any m v L x W H.out.at_ (by omega)).mono ?_
    rintro e w1 ⟨v1, rfl, hv1, ht1⟩
    have HV1 := Lib.hid hv1
    have HT1 := Lib.hid ht1
    obtain ⟨A, c, rfl⟩ := hv1.own.slice
    have hml := meth_len m _ w1 hv1.cell
    clear hv1 ht1 hmp
    go_wp2_with (go_at_call 25; refine (silen_any _ _ _ _).mono ?_; rintro e w' ⟨rfl, rfl⟩)
    refine (up_any m _ (L ++ [x]) L.length w1 HV1.out (upI_push H.out.hp) (by simp; omega)).mono ?_
    rintro e w2 ⟨L2, rfl, hp2, hh2, hv2, ht2⟩
    have HE := Lib.hid (show ∃ (v' : Value) (L' : List Int), L'.Perm (L ++ [x]) ∧ Heap w2 m v' L' ∧ HpT W w2 m v v' from ⟨_, L2, hp2, ⟨hv2, hh2⟩, HT1.out.trans ht2⟩)
    clear hp2 hh2 hv2 ht2
    go_wp2_with fail
    go_end0
    obtain ⟨v', L', h1, h2, h3⟩ := HE.out
    exact ⟨v', L', rfl, h1, h2, h3⟩)
  go_enter Try.func24, Try.ntmps24
  go_wp2_with fail
  refine HPU.out.mono ?_
  rintro e w1 ⟨v1, L1, rfl, h1, h2, h3⟩
  have HE := Lib.hid (And.intro h1 (And.intro h2 h3))
  clear h1 h2 h3
  go_wp2_with fail
  go_end0
  exact ⟨v1, L1, rfl, HE.out.1, HE.out.2.1, HE.out.2.2⟩

end Go.Proofs.Ytneehdjaaofjaaa
