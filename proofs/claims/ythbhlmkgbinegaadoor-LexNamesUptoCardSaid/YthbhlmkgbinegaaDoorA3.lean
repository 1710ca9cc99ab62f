/- lex.Word. -/
import Derived.Test.YthbhlmkgbinegaaDoorA2
import Derived.Laws.Rows
import Derived.Below
import Derived.Lib.Hide
namespace Go.Proofs.YthbhlmkgbinegaaDoor
open Go.RowKit
def kwL : List (List UInt8) := [[99, 104, 97, 114], [105, 110, 116], [108, 111, 110, 103], [118, 111, 105, 100], [115, 116, 114, 117, 99, 116], [117, 110, 105, 111, 110], [105, 102], [101, 108, 115, 101], [119, 104, 105, 108, 101], [114, 101, 116, 117, 114, 110], [98, 114, 101, 97, 107], [99, 111, 110, 116, 105, 110, 117, 101], [115, 105, 122, 101, 111, 102]]
def opL : List (List UInt8) := [[45, 62], [61, 61], [33, 61], [60, 61], [62, 61], [60, 60], [62, 62], [40], [41], [91], [93], [123], [125], [59], [44], [46], [43], [45], [42], [47], [37], [38], [124], [94], [33], [126], [60], [62], [61]]
def isKw (l : List UInt8) : Bool := kwL.contains l
theorem isKw_at (l : List UInt8) (k : Nat) (h : k < kwL.length) (e : kwL[k] = l) : isKw l = true := by
  subst e; exact List.contains_iff_mem.2 (List.getElem_mem h)
theorem isKw_no (l : List UInt8) (h : ∀ j (hj2 : j < kwL.length), kwL[j] ≠ l) : isKw l = false := by
  cases e : isKw l with
  | false => rfl
  | true => obtain ⟨j, hj, e⟩ := List.getElem_of_mem (List.contains_iff_mem.1 e); exact absurd e (h j hj)
theorem seq_true {s : ByteArray} {x : List UInt8} (h : (s.toList == x) = true) : x = s.data.toList := by
  have := eq_of_beq h
  rw [← this, ByteArray.toList_eq]
theorem seq_false {s : ByteArray} {x : List UInt8} (h : (s.toList == x) = false) : x ≠ s.data.toList := by
  intro e; subst e; simp [ByteArray.toList_eq] at h
def strs (l : List (List UInt8)) : Array Value := (l.map fun x => Value.string ⟨x.toArray⟩).toArray
def kwC : Array Value := strs kwL
def opC : Array Value := strs opL
theorem kwC_size : kwC.size = 13 := by kernel_rfl
theorem opC_size : opC.size = 29 := by kernel_rfl
/-- What the program's tables hold. -/
structure Vars (w : World) : Prop where
  size : 8 ≤ w.heap.size
  kw : ∃ t fr, w.heap[0]? = some (.cells kwC t fr)
  op : ∃ t fr, w.heap[1]? = some (.cells opC t fr)
  ml : ∃ m, w.cell? ⟨2, 0, none⟩ = some (.int .i64 m)
  er : ∃ v, w.cell? ⟨4, 0, none⟩ = some v ∧ (v = .nilIface ∨ ∃ t p, v = .iface t p)
theorem Vars.below {w w' : World} {B : Nat} (h : Vars w) (b : Below B w w') (hB : 8 ≤ B) : Vars w' := by
  refine ⟨Nat.le_trans h.size b.size, ?_, ?_, ?_, ?_⟩
  · rw [b.block 0 (by omega)]; exact h.kw
  · rw [b.block 1 (by omega)]; exact h.op
  · rw [b.cell (p := ⟨2, 0, none⟩) (by show 2 < B; omega)]; exact h.ml
  · rw [b.cell (p := ⟨4, 0, none⟩) (by show 4 < B; omega)]; exact h.er
theorem index_tab {T : TypeId} {n : Nat} (l : List (List UInt8)) (k : Nat) (hk : k < l.length) (w : World) (h : Tryd.prog.underlying T = some (.array n 9)) (hn : n = l.length) :
    (Instr.index T (.agg (strs l)) (.int .i64 k)).run Tryd.prog w = .ok (.string ⟨(l[k]).toArray⟩) w := by
  have h9 : (sizeOf 9).run Tryd.prog w = .ok 1 w := by kernel_rfl
  have ha : (isAgg 9).run Tryd.prog w = .ok false w := by kernel_rfl
  have e : (strs l)[k]? = some (.string ⟨(l[k]).toArray⟩) := by
    unfold strs
    simp [hk]
  subst hn
  have hk1 : (0 : Int) ≤ k ∧ (k : Int) < l.length := by omega
  simp [Instr.index, Sem.run_bind, run_underlying h, asIntOf, part, h9, hk, e]
set_option maxHeartbeats 400000 in
theorem word_any (s : ByteArray) (w : World) (hv : Vars w) :
    Calls Tryd.prog 17 #[.string s] w fun e w' => e = .returned (.bool (isKw s.data.toList)) ∧ w = w' := by
  obtain ⟨t, fr, hg⟩ := hv.kw
  have HG := Lib.hid hg
  clear hg hv
  go_enter Tryd.func17, Tryd.ntmps17
  go_wp2_with (refine wpList_load_row rfl 49 _ rfl 0 rfl t _ fr _ HG.out Tryd.underlying49 rfl (by kernel_rfl) ?_)
  go_loop [4, 6] (fun _ i => ∃ k : Nat, k ≤ 13 ∧ i = .int .i64 k ∧ ∀ j (hj : j < k) (hj2 : j < kwL.length), kwL[j] ≠ s.data.toList) (fun _ i => 13 - (intOf i).toNat)
  case atStart => exact ⟨0, Nat.zero_le _, rfl, fun j hj => absurd hj (by omega)⟩
  case round =>
    obtain ⟨k, hk, rfl, hall0⟩ := hrel
    have hall := Lib.hid hall0
    clear hall0
    by_cases hlt : k < 13
    · have hk2 : k < kwL.length := hlt
      have hix : ∀ w, (Instr.index 49 (.agg kwC) (.int .i64 k)).run Tryd.prog w = .ok (.string ⟨(kwL[k]).toArray⟩) w := fun w => index_tab kwL k hk2 w Tryd.underlying49 rfl
      generalize hx : kwL[k] = x at hix
      have hx := Lib.hid hx
      go_wp2
      · have h1 : (s.toList == x) = true := by assumption
        go_ret
        exact ⟨ret_bool (isKw_at _ k hk2 (hx.out.trans (seq_true h1))).symm, rfl⟩
      · have h1 : (s.toList == x) = false := by assumption
        go_round
        case rel => exact ⟨k + 1, by omega, by go_num, fun j hj hj2 => by
          by_cases e : j = k
          · subst e; rw [hx.out]; exact seq_false h1
          · exact hall.out j (by omega) hj2⟩
        case measure => simp [intOf]; omega
    · go_wp2
      go_ret
      exact ⟨ret_bool (isKw_no _ (fun j hj => hall.out j (by have : kwL.length = 13 := rfl; omega) hj)).symm, rfl⟩
end Go.Proofs.YthbhlmkgbinegaaDoor
