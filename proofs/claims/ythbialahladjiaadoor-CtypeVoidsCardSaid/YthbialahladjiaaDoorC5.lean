/- ctype: a map whose keys are pairs of pointers. -/
import Derived.Test.YthbialahladjiaaDoorC4
import Derived.LaidEqlPtr
import Derived.Maps.OwnSet
namespace Go.Proofs.YthbialahladjiaaDoor
open Go.RowKit
open Go.ChangeMaps
def prV (a b : Addr) : Value := .agg #[.pointer (some a), .pointer (some b)]
theorem fieldsPair : Tryd.prog.fieldsOf 48 = #[{ name := "t", type := 37, offset := 0, embedded := false, tag := "", pkgPath := "crosstree/ctype", byteOffset := 0 }, { name := "u", type := 37, offset := 1, embedded := false, tag := "", pkgPath := "crosstree/ctype", byteOffset := 8 }] := by kernel_rfl
theorem heldPair : Tryd.prog.stoodInHeld 48 = false := by kernel_rfl
theorem undPT : Tryd.prog.underlying 37 = some (.pointer 24) := by kernel_rfl
theorem infoT4 : ∃ j, Tryd.prog.info? 24 = some j ∧ j.size ≠ 0 := by
  have h : (Tryd.prog.info? 24).map (fun i => decide (i.size = 0)) = some false := by kernel_rfl
  obtain ⟨j, h1, h2⟩ := Option.map_eq_some_iff.1 h
  exact ⟨j, h1, by simpa using h2⟩
theorem part_0 (w : World) (u v : Value) : (part 37 #[u, v] 0).run Tryd.prog w = .ok u w := by
  simp [part, go_sem]
theorem part_1 (w : World) (u v : Value) : (part 37 #[u, v] 1).run Tryd.prog w = .ok v w := by
  simp [part, go_sem]
theorem ptr_off (w : World) (d : Nat) {a c : Addr} {ca cc : Array Value} {ta tc : TypeId} (hne : a ≠ c) (ha : w.heap[a.block]? = some (.cells ca ta (0, 0))) (hc : w.heap[c.block]? = some (.cells cc tc (0, 0))) :
    (Op.equalIn (d + 1) 37 (.pointer (some a)) (.pointer (some c))).run Tryd.prog w = .ok false w := by
  obtain ⟨j, hj, hz⟩ := infoT4
  simp [Op.equalIn, run_underlying undPT, sizeOf, typeInfo, hj, hz, run_sameAddr_other w hne ha hc]
theorem ptr_same (w : World) (d : Nat) (a : Addr) : (Op.equalIn (d + 1) 37 (.pointer (some a)) (.pointer (some a))).run Tryd.prog w = .ok true w := by
  obtain ⟨j, hj, _⟩ := infoT4
  simp [Op.equalIn, run_underlying undPT, sizeOf, typeInfo, hj, run_sameAddr_same]
theorem key_off (w : World) {a b c d : Addr} {ca cc : Array Value} {ta tc : TypeId} (hne : a ≠ c) (ha : w.heap[a.block]? = some (.cells ca ta (0, 0))) (hc : w.heap[c.block]? = some (.cells cc tc (0, 0))) :
    (Op.equal 48 (prV a b) (prV c d)).run Tryd.prog w = .ok false w := by
  unfold Op.equal prV
  show (Op.equalIn (9999 + 1) 48 _ _).run _ _ = _
  rw [run_equalIn_struct w 9999 48 _ _ (by rw [fieldsPair]; exact Tryd.underlying48) heldPair, fieldsPair]
  simp [Op.eqFields, part_0, ptr_off w 9998 hne ha hc]
theorem check_pair (w : World) (e : Bool) (n : Nat) (a b : Addr) : (Instr.checkKey e (n + 2) 48 (prV a b)).run Tryd.prog w = .ok () w := by
  unfold prV Instr.checkKey
  simp [run_underlying Tryd.underlying48, part_0, part_1, Instr.checkKey, run_underlying undPT]
theorem find_nil (w : World) (k : Value) : (Instr.findKey 48 k []).run Tryd.prog w = .ok none w := by
  simp [Instr.findKey, run_underlying Tryd.underlying48, Instr.findNow]
theorem find_off (w : World) {a b c d : Addr} {ca cc : Array Value} {ta tc : TypeId} (u : Value) (n : Nat) (hne : c ≠ a) (ha : w.heap[a.block]? = some (.cells ca ta (0, 0))) (hc : w.heap[c.block]? = some (.cells cc tc (0, 0))) :
    (Instr.findKey 48 (prV c d) [⟨prV a b, u, n⟩]).run Tryd.prog w = .ok none w := by
  simp [Instr.findKey, run_underlying Tryd.underlying48, Instr.findNow, Instr.sameNow, Instr.findAsking, key_off w hne hc ha]
theorem look_off (w : World) {m : Nat} {a b c d : Addr} {ca cc : Array Value} {ta tc : TypeId} {u : Value} {n t : Nat} (hm : w.heap[m]? = some (.map #[⟨prV a b, u, n⟩] t)) (hne : c ≠ a) (ha : w.heap[a.block]? = some (.cells ca ta (0, 0))) (hc : w.heap[c.block]? = some (.cells cc tc (0, 0))) :
    (Instr.lookup 64 (.map (some m)) (prV c d) true).run Tryd.prog w = .ok (.tuple #[.agg #[], .bool false]) w := by
  unfold Instr.lookup
  simp [run_underlying Tryd.underlying64, MapKept.run_getObj_map hm, check_pair w _ 9998, find_off w u n hne ha hc, Tryd.zeroValue57]
theorem put_first (w : World) {m : Nat} {a b : Addr} {u : Value} {t : Nat} (hm : w.heap[m]? = some (.map #[] t)) :
    (Instr.mapUpdate 64 (.map (some m)) (prV a b) u).run Tryd.prog w = .ok () (setBlock w m (.map #[⟨prV a b, u, t⟩] (t + 1))) := by
  unfold Instr.mapUpdate
  simp [run_underlying Tryd.underlying64, MapKept.run_getObj_map hm, check_pair w _ 9998, find_nil, MapKept.run_setObj_map _ hm, setBlock]
theorem put_second (w : World) {m : Nat} {a b c d : Addr} {ca cc : Array Value} {ta tc : TypeId} {u u' : Value} {n t : Nat} (hm : w.heap[m]? = some (.map #[⟨prV a b, u, n⟩] t)) (hne : c ≠ a) (ha : w.heap[a.block]? = some (.cells ca ta (0, 0))) (hc : w.heap[c.block]? = some (.cells cc tc (0, 0))) :
    (Instr.mapUpdate 64 (.map (some m)) (prV c d) u').run Tryd.prog w = .ok () (setBlock w m (.map #[⟨prV a b, u, n⟩, ⟨prV c d, u', t⟩] (t + 1))) := by
  unfold Instr.mapUpdate
  simp [run_underlying Tryd.underlying64, MapKept.run_getObj_map hm, check_pair w _ 9998, find_off w u n hne ha hc, MapKept.run_setObj_map _ hm, setBlock]

end Go.Proofs.YthbialahladjiaaDoor
