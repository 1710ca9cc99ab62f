/- The document's sign, Others. -/
import Derived.Test.YtdknclhbnhiojaaDoorI18
namespace Go.Proofs.YtdknclhbnhiojaaDoor
open Go.RowKit
def StrsAt (w : World) (ad : Addr) (l : List (List UInt8)) : Prop := ∀ j x, l[j]? = some x → w.cell? (ad.add j) = some (.string ⟨x.toArray⟩)
theorem StrsAt.new (w : World) (l : List (List UInt8)) (cs : Array Value) (t : TypeId) (b : Nat) (hcs : cs.toList = l.map fun x => Value.string ⟨x.toArray⟩) (hb : b = w.heap.size) : StrsAt (w.alloc (.cells cs t)) ⟨b, 0, none⟩ l := by
  subst hb
  intro j x hx
  rw [add_none, Nat.zero_add, cell_of_row _ _ _ _ _ _ (heap_alloc_new w _), ← Array.getElem?_toList, hcs]
  simp [hx]
def sgnB (l : List (List UInt8)) (s : ByteArray) : Bool := l.any fun x => x == s.toList
set_option maxRecDepth 100000 in
set_option maxHeartbeats 4000000 in
theorem sign_any (ad : Addr) (c : Nat) (l : List (List UInt8)) (s : ByteArray) (w : World) (hA : StrsAt w ad l) (hl : l.length ≤ 100) :
    Calls Tryd.prog 37 #[.slice (some ad) l.length c, .string s] w fun e w' => e = .returned (.bool (sgnB l s)) ∧ w.grownBy w' none := by
  have HA := Lib.hid hA
  clear hA
  go_enter Tryd.func37, Tryd.ntmps37
  go_wp2_with fail
  go_loopw [5] (fun i wr => ∃ k : Nat, k ≤ l.length ∧ i = .int .i64 k ∧ sgnB (l.take k) s = false ∧ w = wr) (fun i _ => l.length - (intOf i).toNat)
  case atStart => exact ⟨0, Nat.zero_le _, rfl, rfl, rfl⟩
  case round =>
    obtain ⟨k, hk, rfl, hno, rfl⟩ := hrel
    have HNO := Lib.hid hno
    clear hno
    by_cases hlt : k < l.length
    · have c0 := HA.out k _ (List.getElem?_eq_getElem hlt)
      have HTK := Lib.hid (show sgnB (l.take (k + 1)) s = (l[k] == s.toList) by rw [List.take_succ_eq_append_getElem hlt]; unfold sgnB at HNO ⊢; rw [List.any_append, HNO.out]; simp)
      have HYES := Lib.hid (show (l[k] == s.toList) = true → sgnB l s = true from fun h => List.any_eq_true.2 ⟨_, List.getElem_mem hlt, h⟩)
      generalize l[k] = x at *
      rcases hm : (x == s.toList)
      · have HM := Lib.hid hm
        go_wp2_with fail
        go_roundw
        case rel => exact ⟨k + 1, by omega, by go_num, by rw [HTK.out, HM.out], trivial⟩
        case measure => simp [intOf]; omega
      · have HM := Lib.hid hm
        go_wp2_with fail
        go_ret
        exact ⟨ret_bool (a := true) (HYES.out HM.out).symm, grownBy_refl _ _⟩
    · have hkk : k = l.length := by omega
      subst hkk
      have HALL := Lib.hid (show sgnB l s = false by have h := HNO.out; rwa [List.take_length] at h)
      go_wp2_with fail
      go_ret
      exact ⟨ret_bool (a := false) HALL.out.symm, grownBy_refl _ _⟩

end Go.Proofs.YtdknclhbnhiojaaDoor
