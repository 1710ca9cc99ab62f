/- Merged: Q43, Q44, Q45, Q46, Q47, Q48. -/
import Derived.Test.YtkbplcfehllbjaaGreatDoorMk14
import Derived.Recover
import Derived.Maps.OwnSet
import Derived.Defers
import Derived.LaidEqlPtr
/- parseUnit's deferred closure: what it does of a panic, and of none. -/
namespace Go.Proofs.YtkbplcfehllbjaaGreatDoor
open Go.RowKit
attribute [local go_sem ↓] Go.wp_at_zero Go.wp_at_succ
theorem assert_fail (v : Value) (w : World) : (Instr.typeAssert (.iface 72 v) 20 72 false).run Tryz.prog w = .ok v w := by
  simp [Instr.typeAssert, run_underlying Tryz.underlying72]
theorem blk_put1 {w : World} {b t : Nat} {u : Value} (h : w.heap[b]? = some (.cells #[u] t (0, 0))) (v : Value) : (w.setCell ⟨b, 0, none⟩ v).heap[b]? = some (.cells #[v] t (0, 0)) := by
  simp [World.setCell, Array.getElem?_modify, h]
set_option maxRecDepth 100000 in
set_option maxHeartbeats 4000000 in
theorem caught_idle (a b c : Value) (w : World) :
    CallsD Tryz.prog 32 #[a, b, c] .returning w fun e u' w' => e = .returned (.tuple #[]) ∧ u' = .returning ∧ w' = w := by
  refine callsD_of_wpS Tryz.func32 rfl fun c₀ cs hu => ?_
  apply wpS_seq
  apply wpS_region
  simp [wpOpsS, go_sem, recoverD, hu, Tryz.ntmps32, Exit.thenS]
  rw [show (#[a, b, c] ++ ((Array.replicate 12 undef).setIfInBounds 2 (.nilIface)).setIfInBounds 0 (.nilIface) : Array Value) = #[a, b, c, .nilIface, undef, .nilIface, undef, undef, undef, undef, undef, undef, undef, undef, undef] from rfl]
  refine wpS_of_wp ?_
  go_wp2_with fail
  cases c₀
  simp_all [bodyPostS, results, Tryz.results32]
set_option maxRecDepth 100000 in
set_option maxHeartbeats 4000000 in
theorem caught_panic (n p q : Nat) (at' : Nat) (er : Int) (x0 x1 x2 x3 x4 x5 x6 x7 y z : Value) (older : List PanicEntry) (w : World) (hn : w.heap[n]? = some (.cells #[x0, x1, x2, x3, x4, x5, x6, x7] 28 (0, 0))) (hp : w.heap[p]? = some (.cells #[y] 3 (0, 0))) (hq : w.heap[q]? = some (.cells #[z] 29 (0, 0))) (hnp : n ≠ p) (hnq : n ≠ q) (hpq : p ≠ q) :
    CallsD Tryz.prog 32 #[.pointer (some ⟨n, 0, none⟩), .pointer (some ⟨p, 0, none⟩), .pointer (some ⟨q, 0, none⟩)] (.panicking ({ v := failV at' er, recovered := false } :: older)) w fun e u' w' =>
      e = .returned (.tuple #[]) ∧ u' = .panicking ({ v := failV at' er, recovered := true } :: older) ∧ w'.heap[n]? = some (.cells #[.int .i64 0, .string ⟨#[]⟩, .int .i64 0, .int .i64 0, .int .i64 0, .string ⟨#[]⟩, .slice none 0 0, .slice none 0 0] 28) ∧ w'.heap[p]? = some (.cells #[.int .i64 at'] 3 (0, 0)) ∧ w'.heap[q]? = some (.cells #[.int .i64 er] 29 (0, 0)) ∧ ∀ w0 : World, w0.grownBy w none → w0.heap.size ≤ n → w0.heap.size ≤ p → w0.heap.size ≤ q → w0.grownBy w' none := by
  refine callsD_of_wpS Tryz.func32 rfl fun c₀ cs hu => ?_
  apply wpS_seq
  apply wpS_region
  unfold failV at *
  simp [wpOpsS, go_sem, recoverD, hu, Tryz.ntmps32, Exit.thenS]
  rw [show (#[.pointer (some ⟨n, 0, none⟩), .pointer (some ⟨p, 0, none⟩), .pointer (some ⟨q, 0, none⟩)] ++ ((Array.replicate 12 undef).setIfInBounds 2 (.iface 72 (.agg #[.int .i64 at', .int .i64 er]))).setIfInBounds 0 (.iface 72 (.agg #[.int .i64 at', .int .i64 er])) : Array Value) = #[.pointer (some ⟨n, 0, none⟩), .pointer (some ⟨p, 0, none⟩), .pointer (some ⟨q, 0, none⟩), .iface 72 (.agg #[.int .i64 at', .int .i64 er]), undef, .iface 72 (.agg #[.int .i64 at', .int .i64 er]), undef, undef, undef, undef, undef, undef, undef, undef, undef] from rfl]
  refine wpS_of_wp ?_
  obtain ⟨⟨r0, r1, r2, r3, r4, r5, r6, r7⟩, e0, e1, e2, e3, e4, e5, e6, e7⟩ := cells8_of w n _ _ _ _ _ _ _ _ _ hn
  have c0 := cell_of_row _ _ 0 _ _ _ hp
  have d0 := cell_of_row _ _ 0 _ _ _ hq
  simp at c0 d0
  have f0 : w.frozen? ⟨p, 0, none⟩ = false := by simp [World.frozen?, hp]
  have f1 : w.frozen? ⟨q, 0, none⟩ = false := by simp [World.frozen?, hq]
  have hnl := lt_of_heap hn
  have hpl := lt_of_heap hp
  have hql := lt_of_heap hq
  have hass := assert_fail
  have g1 : ¬ n = p := hnp
  have g2 : ¬ n = q := hnq
  have g3 : ¬ p = q := hpq
  have g4 : ¬ p = n := fun e => hnp e.symm
  have g5 : ¬ q = n := fun e => hnq e.symm
  have g6 : ¬ q = p := fun e => hpq e.symm
  go_wp2_with fail
  go_region
  change bodyPostS _ _ _ _ _ Exit.normal _ _ _
  have hN := blk_put8 hn (.int .i64 0) (.string ⟨#[]⟩) (.int .i64 0) (.int .i64 0) (.int .i64 0) (.string ⟨#[]⟩) (.slice none 0 0) (.slice none 0 0)
  have hP := blk_set8 hp (b := n) g4 (.int .i64 0) (.string ⟨#[]⟩) (.int .i64 0) (.int .i64 0) (.int .i64 0) (.string ⟨#[]⟩) (.slice none 0 0) (.slice none 0 0)
  have hQ := blk_set8 hq (b := n) g5 (.int .i64 0) (.string ⟨#[]⟩) (.int .i64 0) (.int .i64 0) (.int .i64 0) (.string ⟨#[]⟩) (.slice none 0 0) (.slice none 0 0)
  have hG : ∀ w0 : World, w0.grownBy w none → w0.heap.size ≤ n → w0.grownBy _ none := fun w0 g h => ((((((((g.gr_set (p := ⟨n, 0, none⟩) h (.int .i64 0)).gr_set (p := ⟨n, 1, none⟩) h (.string ⟨#[]⟩)).gr_set (p := ⟨n, 2, none⟩) h (.int .i64 0)).gr_set (p := ⟨n, 3, none⟩) h (.int .i64 0)).gr_set (p := ⟨n, 4, none⟩) h (.int .i64 0)).gr_set (p := ⟨n, 5, none⟩) h (.string ⟨#[]⟩)).gr_set (p := ⟨n, 6, none⟩) h (.slice none 0 0)).gr_set (p := ⟨n, 7, none⟩) h (.slice none 0 0))
  generalize ((((((((w.setCell ⟨n, 0, none⟩ (.int .i64 0)).setCell ⟨n, 1, none⟩ (.string ⟨#[]⟩)).setCell ⟨n, 2, none⟩ (.int .i64 0)).setCell ⟨n, 3, none⟩ (.int .i64 0)).setCell ⟨n, 4, none⟩ (.int .i64 0)).setCell ⟨n, 5, none⟩ (.string ⟨#[]⟩)).setCell ⟨n, 6, none⟩ (.slice none 0 0)).setCell ⟨n, 7, none⟩ (.slice none 0 0)) = w1 at *
  refine ⟨rfl, _, rfl, .tuple #[], by simp [results, Tryz.results32, go_sem], rfl, rfl, ?_, ?_, ?_, fun w0 g h1 h2 h3 => ?_⟩
  · exact blk_alloc (blk_set (blk_set hN (p := ⟨p, 0, none⟩) g1 _) (p := ⟨q, 0, none⟩) g2 _) _
  · exact blk_alloc (blk_set (blk_put1 hP (.int .i64 at')) (p := ⟨q, 0, none⟩) g3 _) _
  · exact blk_alloc (blk_put1 (blk_set hQ (p := ⟨p, 0, none⟩) g6 _) (.int .i64 er)) _
  · exact (gr_alloc (((hG w0 g h1).gr_set (p := ⟨p, 0, none⟩) h2 _).gr_set (p := ⟨q, 0, none⟩) h3 _) _).gr_drew

end Go.Proofs.YtkbplcfehllbjaaGreatDoor
/- parseUnit: the map of the types' keywords. -/
namespace Go.Proofs.YtkbplcfehllbjaaGreatDoor
open Go.RowKit
open Go.ChangeMaps
theorem grownBy_setBlock {a b : World} {m t : Nat} {es : Array MapEntry} (h : a.grownBy b none) (hm : a.heap.size ≤ m) (hb : b.heap[m]? = some (.map es t)) (o : Obj) : a.grownBy (setBlock b m o) none :=
  ⟨h.os, h.tape, h.output, by simp [setBlock]; exact h.size, fun k hk hn => by rw [heap_setBlock_other hb o (by omega)]; exact h.block k hk hn⟩
theorem setBlock_other {b : World} {m t k : Nat} {es : Array MapEntry} {o' : Obj} (h : b.heap[k]? = some o') (hb : b.heap[m]? = some (.map es t)) (hne : k ≠ m) (o : Obj) : (setBlock b m o).heap[k]? = some o' := by
  rw [heap_setBlock_other hb o hne]; exact h
theorem beqS (a b : ByteArray) : (a == b) = decide (a = b) := by
  obtain ⟨a⟩ := a
  obtain ⟨b⟩ := b
  show (a == b) = _
  rw [Bool.eq_iff_iff]; simp
def tyE (s : List UInt8) (k : Int) (n : Nat) : MapEntry := ⟨.string ⟨s.toArray⟩, .int .i64 k, n⟩
def tyEs : Array MapEntry := #[tyE [118, 111, 105, 100] 1 0, tyE [99, 104, 97, 114] 2 1, tyE [105, 110, 116] 3 2, tyE [108, 111, 110, 103] 4 3, tyE [115, 116, 114, 117, 99, 116] 7 4, tyE [117, 110, 105, 111, 110] 8 5]
theorem check_str (w : World) (e : Bool) (n : Nat) (s : ByteArray) : (Instr.checkKey e (n + 1) 9 (.string s)).run Tryz.prog w = .ok () w := by
  unfold Instr.checkKey
  simp [run_underlying Tryz.underlying9]
theorem put_ty (w : World) {m t : Nat} {es : Array MapEntry} (s : ByteArray) (v : Value) (hm : w.heap[m]? = some (.map es t)) (hn : Instr.findNow .string (.string s) es.toList 0 = some none) :
    (Instr.mapUpdate 68 (.map (some m)) (.string s) v).run Tryz.prog w = .ok () (setBlock w m (.map (es.push ⟨.string s, v, t⟩) (t + 1))) := by
  unfold Instr.mapUpdate
  simp [run_underlying Tryz.underlying68, MapKept.run_getObj_map hm, check_str w _ 9999, Instr.findKey, run_underlying Tryz.underlying9, hn, MapKept.run_setObj_map _ hm, setBlock]
theorem look_ty (w : World) {m : Nat} (s : ByteArray) (hm : w.heap[m]? = some (.map tyEs 6)) :
    (Instr.lookup 68 (.map (some m)) (.string s) true).run Tryz.prog w = .ok (typesV s) w := by
  have key : ∃ r, Instr.findNow .string (.string s) tyEs.toList 0 = some r ∧ (.tuple #[(r.map (·.2)).getD (.int .i64 0), .bool r.isSome] : Value) = typesV s := by
    obtain ⟨⟨l⟩⟩ := s
    simp only [typesV]
    by_cases h0 : l = [118, 111, 105, 100]
    · subst h0; exact ⟨_, rfl, rfl⟩
    by_cases h1 : l = [99, 104, 97, 114]
    · subst h1; exact ⟨_, rfl, rfl⟩
    by_cases h2 : l = [105, 110, 116]
    · subst h2; exact ⟨_, rfl, rfl⟩
    by_cases h3 : l = [108, 111, 110, 103]
    · subst h3; exact ⟨_, rfl, rfl⟩
    by_cases h4 : l = [115, 116, 114, 117, 99, 116]
    · subst h4; exact ⟨_, rfl, rfl⟩
    by_cases h5 : l = [117, 110, 105, 111, 110]
    · subst h5; exact ⟨_, rfl, rfl⟩
    have hb : ∀ q : List UInt8, l ≠ q → ((⟨⟨l⟩⟩ : ByteArray) == ⟨q.toArray⟩) = false := fun q hq => by rw [beqS, decide_eq_false_iff_not]; exact fun e => hq (by injection e with e; injection e)
    refine ⟨none, ?_, ?_⟩
    · simp only [tyEs, tyE, Instr.findNow, Instr.sameNow, hb _ h0, hb _ h1, hb _ h2, hb _ h3, hb _ h4, hb _ h5]
    · simp [typeKind, h0, h1, h2, h3, h4, h5]
  obtain ⟨r, hr, hv⟩ := key
  unfold Instr.lookup
  rw [← hv]
  cases r with
  | none => simp [run_underlying Tryz.underlying68, MapKept.run_getObj_map hm, check_str w _ 9999, Instr.findKey, run_underlying Tryz.underlying9, hr, Tryz.zeroValue3]
  | some p => simp [run_underlying Tryz.underlying68, MapKept.run_getObj_map hm, check_str w _ 9999, Instr.findKey, run_underlying Tryz.underlying9, hr]

end Go.Proofs.YtkbplcfehllbjaaGreatDoor
/- parseUnit. -/
namespace Go.Proofs.YtkbplcfehllbjaaGreatDoor
open Go.RowKit
open Go.ChangeMaps
theorem blk_set_map {b : World} {m t k : Nat} {es : Array MapEntry} {o' : Obj} (h : b.heap[k]? = some o') (hb : b.heap[m]? = some (.map es t)) (hne : k ≠ m) (o : Obj) : (setBlock b m o).heap[k]? = some o' := setBlock_other h hb hne o
theorem size_setBlock (b : World) (m : Nat) (o : Obj) : (setBlock b m o).heap.size = b.heap.size := by simp [setBlock]
/-- The six entries, one behind the other. -/
theorem six_ty (W : World) (m : Nat) (h : W.heap[m]? = some (.map #[] 0)) : ∃ W1 W2 W3 W4 W5 W6 : World,
    (Instr.mapUpdate 68 (.map (some m)) (.string ⟨#[118, 111, 105, 100]⟩) (.int .i64 1)).run Tryz.prog W = .ok () W1 ∧
    (Instr.mapUpdate 68 (.map (some m)) (.string ⟨#[99, 104, 97, 114]⟩) (.int .i64 2)).run Tryz.prog W1 = .ok () W2 ∧
    (Instr.mapUpdate 68 (.map (some m)) (.string ⟨#[105, 110, 116]⟩) (.int .i64 3)).run Tryz.prog W2 = .ok () W3 ∧
    (Instr.mapUpdate 68 (.map (some m)) (.string ⟨#[108, 111, 110, 103]⟩) (.int .i64 4)).run Tryz.prog W3 = .ok () W4 ∧
    (Instr.mapUpdate 68 (.map (some m)) (.string ⟨#[115, 116, 114, 117, 99, 116]⟩) (.int .i64 7)).run Tryz.prog W4 = .ok () W5 ∧
    (Instr.mapUpdate 68 (.map (some m)) (.string ⟨#[117, 110, 105, 111, 110]⟩) (.int .i64 8)).run Tryz.prog W5 = .ok () W6 ∧
    W6.heap[m]? = some (.map tyEs 6) ∧ (∀ k o, k ≠ m → W.heap[k]? = some o → W6.heap[k]? = some o) ∧ W6.heap.size = W.heap.size ∧ (∀ a : World, a.grownBy W none → a.heap.size ≤ m → a.grownBy W6 none) := by
  have e0 := put_ty W ⟨#[118, 111, 105, 100]⟩ (.int .i64 1) h (by kernel_rfl)
  have h1 := heap_setBlock_same h (.map (#[].push ⟨.string ⟨#[118, 111, 105, 100]⟩, .int .i64 1, 0⟩) (0 + 1))
  have e1 := put_ty _ ⟨#[99, 104, 97, 114]⟩ (.int .i64 2) h1 (by kernel_rfl)
  have h2 := heap_setBlock_same h1 (.map ((#[].push ⟨.string ⟨#[118, 111, 105, 100]⟩, .int .i64 1, 0⟩).push ⟨.string ⟨#[99, 104, 97, 114]⟩, .int .i64 2, 0 + 1⟩) (0 + 1 + 1))
  have e2 := put_ty _ ⟨#[105, 110, 116]⟩ (.int .i64 3) h2 (by kernel_rfl)
  have h3 := heap_setBlock_same h2 (.map (((#[].push ⟨.string ⟨#[118, 111, 105, 100]⟩, .int .i64 1, 0⟩).push ⟨.string ⟨#[99, 104, 97, 114]⟩, .int .i64 2, 0 + 1⟩).push ⟨.string ⟨#[105, 110, 116]⟩, .int .i64 3, 0 + 1 + 1⟩) (0 + 1 + 1 + 1))
  have e3 := put_ty _ ⟨#[108, 111, 110, 103]⟩ (.int .i64 4) h3 (by kernel_rfl)
  have h4 := heap_setBlock_same h3 (.map ((((#[].push ⟨.string ⟨#[118, 111, 105, 100]⟩, .int .i64 1, 0⟩).push ⟨.string ⟨#[99, 104, 97, 114]⟩, .int .i64 2, 0 + 1⟩).push ⟨.string ⟨#[105, 110, 116]⟩, .int .i64 3, 0 + 1 + 1⟩).push ⟨.string ⟨#[108, 111, 110, 103]⟩, .int .i64 4, 0 + 1 + 1 + 1⟩) (0 + 1 + 1 + 1 + 1))
  have e4 := put_ty _ ⟨#[115, 116, 114, 117, 99, 116]⟩ (.int .i64 7) h4 (by kernel_rfl)
  have h5 := heap_setBlock_same h4 (.map (((((#[].push ⟨.string ⟨#[118, 111, 105, 100]⟩, .int .i64 1, 0⟩).push ⟨.string ⟨#[99, 104, 97, 114]⟩, .int .i64 2, 0 + 1⟩).push ⟨.string ⟨#[105, 110, 116]⟩, .int .i64 3, 0 + 1 + 1⟩).push ⟨.string ⟨#[108, 111, 110, 103]⟩, .int .i64 4, 0 + 1 + 1 + 1⟩).push ⟨.string ⟨#[115, 116, 114, 117, 99, 116]⟩, .int .i64 7, 0 + 1 + 1 + 1 + 1⟩) (0 + 1 + 1 + 1 + 1 + 1))
  have e5 := put_ty _ ⟨#[117, 110, 105, 111, 110]⟩ (.int .i64 8) h5 (by kernel_rfl)
  refine ⟨_, _, _, _, _, _, e0, e1, e2, e3, e4, e5, heap_setBlock_same h5 _, fun k o hk ho => ?_, ?_, fun a ha hm => ?_⟩
  · exact setBlock_other (setBlock_other (setBlock_other (setBlock_other (setBlock_other (setBlock_other ho h hk _) h1 hk _) h2 hk _) h3 hk _) h4 hk _) h5 hk _
  · simp only [size_setBlock]
  · exact grownBy_setBlock (grownBy_setBlock (grownBy_setBlock (grownBy_setBlock (grownBy_setBlock (grownBy_setBlock ha hm h _) hm h1 _) hm h2 _) hm h3 _) hm h4 _) hm h5 _











theorem gr_own {a b c : World} {r : Option Nat} (h : a.grownBy b none) (g : b.grownBy c r) (hr : ∀ k, r = some k → a.heap.size ≤ k) : a.grownBy c none :=
  ⟨g.os.trans h.os, g.tape.trans h.tape, g.output.trans h.output, Nat.le_trans h.size g.size, fun k hk _ => (g.block k (Nat.lt_of_lt_of_le hk h.size) (fun e => by have := hr k e.symm; omega)).trans (h.block k hk (by simp))⟩
/-- What parseUnit hands back. -/
def unitRes (r : PR Nd) (w : World) (e : Ending) (w' : World) : Prop :=
  w.grownBy w' none ∧ match r with
  | .ok n _ => ∃ v, e = .returned (.tuple #[v, .int .i64 0, .int .i64 0]) ∧ ndVal n w w' v
  | .err p er => e = .returned (.tuple #[ndV (.mk 0 [] 0 (.mk 0 0 [] []) []) (.slice none 0 0) (.slice none 0 0), .int .i64 p, .int .i64 er])
set_option maxRecDepth 100000 in
set_option maxHeartbeats 1000000 in
theorem parseUnit_any (toks : List T4) (bt cap : Nat) (w : World) (htok : ∀ j u, (tksC toks)[j]? = some u → w.cell? ⟨bt, j, none⟩ = some u) (hne : 0 < toks.length)
    (hfin : ∀ (j : Nat) (t : T4), toks[j]? = some t → (t.text ≠ [] ∨ t.kind ≠ 0) → j + 1 < toks.length) (hlen : toks.length ≤ 20001) :
    Calls Tryz.prog 16 #[.slice (some ⟨bt, 0, none⟩) toks.length cap] w (unitRes (unitP toks) w) := by
  have hbt : bt < w.heap.size := by
    obtain ⟨u, hu⟩ : ∃ u, (tksC toks)[0]? = some u := by
      cases toks with
      | nil => simp at hne
      | cons t l => exact ⟨_, rfl⟩
    exact World.block_lt_of_cell? w _ (htok 0 u hu)
  have hmm := @run_makeMap Tryz.prog
  have hmf : ∀ (fn : Fn) (first cap : Array Value) (w : World), (Instr.makeFunc fn first cap).run Tryz.prog w = .ok (.func fn first cap) w := fun _ _ _ _ => rfl
  have hmap : (((( w.alloc (.cells #[.int .i64 0, .string ⟨#[]⟩, .int .i64 0, .int .i64 0, .int .i64 0, .string ⟨#[]⟩, .slice none 0 0, .slice none 0 0] 28)).alloc (.cells #[.int .i64 0] 3)).alloc (.cells #[.int .i64 0] 29)).alloc (.map #[] 0)).heap[w.heap.size + 3]? = some (.map #[] 0) := by
    have := blk_new (((w.alloc (.cells #[.int .i64 0, .string ⟨#[]⟩, .int .i64 0, .int .i64 0, .int .i64 0, .string ⟨#[]⟩, .slice none 0 0, .slice none 0 0] 28)).alloc (.cells #[.int .i64 0] 3)).alloc (.cells #[.int .i64 0] 29)) (.map #[] 0)
    simpa using this
  obtain ⟨W1, W2, W3, W4, W5, W6, e1, e2, e3, e4, e5, e6, hM, hO, hS, hG⟩ := six_ty _ _ hmap
  have hz0 : W6.heap.size = w.heap.size + 4 := by rw [hS]; simp
  have hN := hO w.heap.size _ (by omega) (blk_alloc (blk_alloc (blk_alloc (blk_new w (.cells #[.int .i64 0, .string ⟨#[]⟩, .int .i64 0, .int .i64 0, .int .i64 0, .string ⟨#[]⟩, .slice none 0 0, .slice none 0 0] 28)) _) _) _)
  have hI := hO (w.heap.size + 1) _ (by omega) (blk_alloc (blk_alloc (by simpa using blk_new (w.alloc (.cells #[.int .i64 0, .string ⟨#[]⟩, .int .i64 0, .int .i64 0, .int .i64 0, .string ⟨#[]⟩, .slice none 0 0, .slice none 0 0] 28)) (.cells #[.int .i64 0] 3)) _) _)
  have hE := hO (w.heap.size + 2) _ (by omega) (blk_alloc (by simpa using blk_new ((w.alloc (.cells #[.int .i64 0, .string ⟨#[]⟩, .int .i64 0, .int .i64 0, .int .i64 0, .string ⟨#[]⟩, .slice none 0 0, .slice none 0 0] 28)).alloc (.cells #[.int .i64 0] 3)) (.cells #[.int .i64 0] 29)) _)
  have hGw := hG w (by repeat (first | with_reducible exact grownBy_refl _ _ | with_reducible assumption | with_reducible refine World.grownBy.gr_drew ?_ | with_reducible refine World.grownBy.gr_set ?_ (by simp) _ | with_reducible refine gr_alloc ?_ _)) (by omega)
  have HM := Lib.hid hM
  have HN := Lib.hid hN
  have HI := Lib.hid hI
  have HE := Lib.hid hE
  have HG := Lib.hid hGw
  have HZ := Lib.hid hz0
  have HT := Lib.hid htok
  have HF := Lib.hid hfin
  have HL := Lib.hid hlen
  have HNE := Lib.hid hne
  clear hM hN hI hE hGw hO hS hG hmap htok hfin hlen hne
  go_enter_defers Tryz.func16, Tryz.ntmps16
  go_wp2_with fail
  have hPr : Pr ⟨w.heap.size + 4, bt, cap, w.heap.size + 1 + 1 + 1, toks⟩ (W6.alloc (.cells #[.slice (some ⟨bt, 0, none⟩) toks.length cap, .int .i64 0, .int .i64 0, .map (some (w.heap.size + 1 + 1 + 1))] 70)) 0 0 := by
    have hb := blk_new W6 (.cells #[.slice (some ⟨bt, 0, none⟩) toks.length cap, .int .i64 0, .int .i64 0, .map (some (w.heap.size + 1 + 1 + 1))] 70)
    rw [HZ.out] at hb
    exact ⟨hb, fun j u hu => (gr_alloc HG.out _).cell (HT.out j u hu) (by simp), ⟨_, blk_alloc HM.out _, fun w2 s h => look_ty w2 s h⟩, HNE.out, by show bt ≠ w.heap.size + 4; omega, by show w.heap.size + 1 + 1 + 1 ≠ w.heap.size + 4; omega, HF.out, HL.out, by omega⟩
  have HG7 := Lib.hid (gr_alloc HG.out (.cells #[.slice (some ⟨bt, 0, none⟩) toks.length cap, .int .i64 0, .int .i64 0, .map (some (w.heap.size + 1 + 1 + 1))] 70))
  have HN7 := Lib.hid (blk_alloc HN.out (.cells #[.slice (some ⟨bt, 0, none⟩) toks.length cap, .int .i64 0, .int .i64 0, .map (some (w.heap.size + 1 + 1 + 1))] 70))
  have HI7 := Lib.hid (blk_alloc HI.out (.cells #[.slice (some ⟨bt, 0, none⟩) toks.length cap, .int .i64 0, .int .i64 0, .map (some (w.heap.size + 1 + 1 + 1))] 70))
  have HE7 := Lib.hid (blk_alloc HE.out (.cells #[.slice (some ⟨bt, 0, none⟩) toks.length cap, .int .i64 0, .int .i64 0, .map (some (w.heap.size + 1 + 1 + 1))] 70))
  have hz7 : (W6.alloc (.cells #[.slice (some ⟨bt, 0, none⟩) toks.length cap, .int .i64 0, .int .i64 0, .map (some (w.heap.size + 1 + 1 + 1))] 70)).heap.size = w.heap.size + 5 := by simp; exact HZ.out
  have HU := Lib.hid (unit_any ⟨w.heap.size + 4, bt, cap, w.heap.size + 1 + 1 + 1, toks⟩ _ 0 hPr)
  generalize W6.alloc (.cells #[.slice (some ⟨bt, 0, none⟩) toks.length cap, .int .i64 0, .int .i64 0, .map (some (w.heap.size + 1 + 1 + 1))] 70) = W7 at *
  rw [List.drop_zero] at HU
  refine HU.out.mono ?_
  generalize unitP toks = r at *
  clear hPr HU HM HN HI HE HG HT HF HL e1 e2 e3 e4 e5 e6 hmm hmf
  have y0 : w.heap.size < W7.heap.size := by omega
  have y1 : w.heap.size + 1 < W7.heap.size := by omega
  have y2 : w.heap.size + 1 + 1 < W7.heap.size := by omega
  have y3 : ¬ w.heap.size = w.heap.size + 1 := by omega
  have y4 : ¬ w.heap.size = w.heap.size + 1 + 1 := by omega
  have y5 : ¬ w.heap.size + 1 = w.heap.size + 1 + 1 := by omega
  have y6 : ¬ w.heap.size + 1 = w.heap.size := by omega
  have y7 : ¬ w.heap.size + 1 + 1 = w.heap.size := by omega
  have y8 : ¬ w.heap.size + 1 + 1 = w.heap.size + 1 := by omega
  have x0 : ¬ w.heap.size + 4 = w.heap.size := by omega
  have x1 : ¬ w.heap.size + 4 = w.heap.size + 1 := by omega
  have x2 : ¬ w.heap.size + 4 = w.heap.size + 1 + 1 := by omega
  have b0 : w.heap.size ≤ w.heap.size := by omega
  have b1 : w.heap.size ≤ w.heap.size + 1 := by omega
  have b2 : w.heap.size ≤ w.heap.size + 1 + 1 := by omega
  have b4 : w.heap.size ≤ w.heap.size + 4 := by omega
  have HY := Lib.hid hz7
  clear hz7 HZ
  generalize w.heap.size + 4 = L4 at *
  generalize w.heap.size + 1 + 1 + 1 = L3 at *
  generalize w.heap.size + 1 + 1 = L2 at *
  generalize w.heap.size + 1 = L1 at *
  have hL0 : w.heap.size = w.heap.size := rfl
  generalize hL : w.heap.size = L0 at hL0 b0 b1 b2 b4 y0 y3 y4 y6 y7 x0 HN7 ⊢
  clear hL0
  have HL0 := Lib.hid hL
  clear hL
  cases r with
  | err p er =>
    rintro e w2 ⟨hg, i1, d1, rfl, -, -⟩
    have HB := Lib.hid (caught_panic L0 L1 L2 p er _ _ _ _ _ _ _ _ _ _ [] w2 (blk_call HN7.out hg (by simpa using x0)) (blk_call HI7.out hg (by simpa using x1)) (blk_call HE7.out hg (by simpa using x2)) y3 y4 y5)
    refine leaves_cons (f := 32) (args := #[.pointer (some ⟨L0, 0, none⟩), .pointer (some ⟨L1, 0, none⟩), .pointer (some ⟨L2, 0, none⟩)]) (by simp) (by simp [go_sem]) ?_
    refine HB.out.mono ?_
    rintro e u w3 ⟨rfl, rfl, h1, h2, h3, h4⟩
    obtain ⟨⟨r0, r1, r2, r3, r4, r5, r6, r7⟩, _⟩ := cells8_of w3 L0 _ _ _ _ _ _ _ _ _ h1
    have c0 := cell_of_row _ _ 0 _ _ _ h2
    have d0 := cell_of_row _ _ 0 _ _ _ h3
    simp at c0 d0
    have hl0 := HL0.out
    show Leaves _ _ _ _ [] .returning _
    refine ⟨.tuple #[ndV (.mk 0 [] 0 (.mk 0 0 [] []) []) (.slice none 0 0) (.slice none 0 0), .int .i64 p, .int .i64 er], ?_, h4 w (gr_own HG7.out hg (fun k hk => by cases hk; show _ ≤ L4; omega)) (by omega) (by omega) (by omega), rfl⟩
    simp [results, Tryz.results16, go_sem, r0, r1, r2, r3, r4, r5, r6, r7, c0, d0, ndV]
    exact ⟨rfl, rfl, rfl, rfl, rfl, rfl⟩
  | ok n rest =>
    rintro e w2 ⟨hg, v1, i1, rfl, ⟨ofv, kv, rfl, hof, hkv⟩, -, -⟩
    obtain ⟨sa, sn, sc, rfl⟩ := hof.isSlice
    obtain ⟨ka, kn, kc, rfl⟩ := hkv.isSlice
    have hn := blk_call HN7.out hg (by simpa using x0)
    have hi := blk_call HI7.out hg (by simpa using x1)
    have he := blk_call HE7.out hg (by simpa using x2)
    obtain ⟨_, e0, e1, e2, e3, e4, e5, e6, e7⟩ := cells8_of w2 L0 _ _ _ _ _ _ _ _ _ hn
    have hl0 := lt_of_heap hn
    have HN2 := Lib.hid hn
    have HI2 := Lib.hid hi
    have HE2 := Lib.hid he
    have HG2 := Lib.hid hg
    have HO2 := Lib.hid hof
    have HK2 := Lib.hid hkv
    clear hn hi he hg hof hkv HN7 HI7 HE7
    unfold ndV
    simp only []
    iterate 3 (first | go_step | go_upon | go_values)
    have c8 := blk_set8 HI2.out (b := L0) y6 (.int .i64 n.kind) (.string ⟨n.text.toArray⟩) (.int .i64 n.num) (.int .i64 n.typ.kind) (.int .i64 n.typ.num) (.string ⟨n.typ.name.toArray⟩) (.slice sa sn sc) (.slice ka kn kc)
    have d8 := blk_set8 HE2.out (b := L0) y7 (.int .i64 n.kind) (.string ⟨n.text.toArray⟩) (.int .i64 n.num) (.int .i64 n.typ.kind) (.int .i64 n.typ.num) (.string ⟨n.typ.name.toArray⟩) (.slice sa sn sc) (.slice ka kn kc)
    have a8 := blk_put8 HN2.out (.int .i64 n.kind) (.string ⟨n.text.toArray⟩) (.int .i64 n.num) (.int .i64 n.typ.kind) (.int .i64 n.typ.num) (.string ⟨n.typ.name.toArray⟩) (.slice sa sn sc) (.slice ka kn kc)
    have h8 : Kept (Sx L0 [L0, L1, L2]) w2 _ := ((Kept.refl (Sx L0 [L0, L1, L2]) w2).set8 (b := L0) (by simp) (.int .i64 n.kind) (.string ⟨n.text.toArray⟩) (.int .i64 n.num) (.int .i64 n.typ.kind) (.int .i64 n.typ.num) (.string ⟨n.typ.name.toArray⟩) (.slice sa sn sc) (.slice ka kn kc))
    have hG8 : ∀ a : World, a.grownBy w2 none → a.heap.size ≤ L0 → a.grownBy _ none := fun w0 g h => ((((((((g.gr_set (p := ⟨L0, 0, none⟩) h (.int .i64 n.kind)).gr_set (p := ⟨L0, 1, none⟩) h (.string ⟨n.text.toArray⟩)).gr_set (p := ⟨L0, 2, none⟩) h (.int .i64 n.num)).gr_set (p := ⟨L0, 3, none⟩) h (.int .i64 n.typ.kind)).gr_set (p := ⟨L0, 4, none⟩) h (.int .i64 n.typ.num)).gr_set (p := ⟨L0, 5, none⟩) h (.string ⟨n.typ.name.toArray⟩)).gr_set (p := ⟨L0, 6, none⟩) h (.slice sa sn sc)).gr_set (p := ⟨L0, 7, none⟩) h (.slice ka kn kc))
    generalize ((((((((w2.setCell ⟨L0, 0, none⟩ (.int .i64 n.kind)).setCell ⟨L0, 1, none⟩ (.string ⟨n.text.toArray⟩)).setCell ⟨L0, 2, none⟩ (.int .i64 n.num)).setCell ⟨L0, 3, none⟩ (.int .i64 n.typ.kind)).setCell ⟨L0, 4, none⟩ (.int .i64 n.typ.num)).setCell ⟨L0, 5, none⟩ (.string ⟨n.typ.name.toArray⟩)).setCell ⟨L0, 6, none⟩ (.slice sa sn sc)).setCell ⟨L0, 7, none⟩ (.slice ka kn kc)) = w8 at *
    have f0 : w8.frozen? ⟨L1, 0, none⟩ = false := by simp [World.frozen?, c8]
    have f1 : w8.frozen? ⟨L2, 0, none⟩ = false := by simp [World.frozen?, d8]
    have hl1 := lt_of_heap c8
    have hl2 := lt_of_heap d8
    have c0 := cell_of_row _ _ 0 _ _ _ c8
    have d0 := cell_of_row _ _ 0 _ _ _ d8
    simp at c0 d0
    have HC8 := Lib.hid c8
    have HD8 := Lib.hid d8
    have HA8 := Lib.hid a8
    have HK8 := Lib.hid h8
    have HG8 := Lib.hid hG8
    clear c8 d8 a8 h8 hG8
    go_wp2_with fail
    refine leaves_cons (f := 32) (args := #[.pointer (some ⟨L0, 0, none⟩), .pointer (some ⟨L1, 0, none⟩), .pointer (some ⟨L2, 0, none⟩)]) (by simp) (by simp [go_sem]) ?_
    refine (caught_idle _ _ _ _).mono ?_
    rintro e u w3 ⟨rfl, rfl, rfl⟩
    have hl0 := HL0.out
    show Leaves _ _ _ _ [] .returning _
    have hA := blk_set (blk_set HA8.out (p := ⟨L1, 0, none⟩) y3 (.int .i64 0)) (p := ⟨L2, 0, none⟩) y4 (.int .i64 0)
    have hC := blk_set (blk_put1 HC8.out (.int .i64 0)) (p := ⟨L2, 0, none⟩) y5 (.int .i64 0)
    have hD := blk_put1 (blk_set HD8.out (p := ⟨L1, 0, none⟩) y8 (.int .i64 0)) (.int .i64 0)
    obtain ⟨⟨r0, r1, r2, r3, r4, r5, r6, r7⟩, _⟩ := cells8_of _ L0 _ _ _ _ _ _ _ _ _ hA
    have c0 := cell_of_row _ _ 0 _ _ _ hC
    have d0 := cell_of_row _ _ 0 _ _ _ hD
    simp at c0 d0
    have hw2 := gr_own HG7.out HG2.out (fun k hk => by cases hk; show _ ≤ L4; omega)
    have hK := (HK8.out.set (p := ⟨L1, 0, none⟩) (by simp) (.int .i64 0)).set (p := ⟨L2, 0, none⟩) (by simp) (.int .i64 0)
    refine ⟨.tuple #[ndV n (.slice sa sn sc) (.slice ka kn kc), .int .i64 0, .int .i64 0], ?_, ((HG8.out w hw2 (by omega)).gr_set (by simp; omega) _).gr_set (by simp; omega) _, _, rfl, _, _, rfl, ?_, ?_⟩
    · simp [results, Tryz.results16, go_sem, r0, r1, r2, r3, r4, r5, r6, r7, c0, d0, ndV]
    · exact ((HO2.out.mono (S' := Sx L0 [L0, L1, L2]) (fun g hs hl => ⟨by omega, by simp; omega⟩) (fun _ _ _ => rfl)).kept hK).out (by omega)
    · exact ((HK2.out.mono (S' := Sx L0 [L0, L1, L2]) (fun g hs hl => ⟨by omega, by simp; omega⟩) (fun _ _ _ => rfl)).kept hK).out (by omega)

end Go.Proofs.YtkbplcfehllbjaaGreatDoor
/- Depth: heights of trees; a map whose keys say where a list lies. -/
namespace Go.Proofs.YtkbplcfehllbjaaGreatDoor
open Go.RowKit
open Go.ChangeMaps
mutual
def ndH : Nd → Nat
  | .mk _ _ _ _ kids => 1 + ndsH kids
def ndsH : List Nd → Nat
  | [] => 0
  | t :: l => max (ndH t) (ndsH l)
end
theorem ownsRow_det {w : World} {e s n n' : Nat} {v : Value} {xs xs' : List Value} (h : w.ownsRow 0 e s v n xs) (h' : w.ownsRow 0 e s v n' xs') : n = n' ∧ xs = xs' := by
  rcases h.2 with ⟨hv, hn⟩ | ⟨g, cap, cur, hv, _, hh, _, _, _, ht⟩
  · rcases h'.2 with ⟨_, hn'⟩ | ⟨g', cap', cur', hv', _⟩
    · subst hn; subst hn'
      have a := h.1
      have b := h'.1
      simp at a b
      exact ⟨rfl, by rw [a, b]⟩
    · rw [hv] at hv'; cases hv'
  · rcases h'.2 with ⟨hv', _⟩ | ⟨g', cap', cur', hv', _, hh', _, _, _, ht'⟩
    · rw [hv] at hv'; cases hv'
    · rw [hv] at hv'
      simp only [Value.slice.injEq, Option.some.injEq, Addr.mk.injEq] at hv'
      obtain ⟨⟨rfl, _, _⟩, rfl, rfl⟩ := hv'
      rw [hh] at hh'
      simp only [Option.some.injEq, Obj.cells.injEq] at hh'
      obtain ⟨rfl, _⟩ := hh'
      exact ⟨rfl, by rw [← ht, ← ht']⟩
theorem RepN.len {w : World} {S : Nat → Prop} : ∀ (t : Nd) (cs : List Value), RepN w S t cs → cs.length = 8
  | .mk _ _ _ _ _, _, ⟨_, _, hc, _⟩ => by rw [hc]; rfl
mutual
theorem RepN.h {w : World} {S S' : Nat → Prop} : ∀ (t t' : Nd) (cs : List Value), RepN w S t cs → RepN w S' t' cs → ndH t = ndH t'
  | .mk k tx n t kids, .mk k' tx' n' t' kids', cs, ⟨ofv, kv, hc, _, cells, ho, _, hl⟩, ⟨ofv', kv', hc', _, cells', ho', _, hl'⟩ => by
    have hk : kv = kv' := by
      rw [hc] at hc'
      simp only [List.cons.injEq] at hc'
      exact hc'.2.2.2.2.2.2.2.1
    subst hk
    obtain ⟨hn, hx⟩ := ownsRow_det ho ho'
    subst hx
    show 1 + ndsH kids = 1 + ndsH kids'
    rw [RepNl.h kids kids' cells hl hl' hn]
theorem RepNl.h {w : World} {S S' : Nat → Prop} : ∀ (l l' : List Nd) (cs : List Value), RepNl w S l cs → RepNl w S' l' cs → l.length = l'.length → ndsH l = ndsH l'
  | [], [], _, _, _, _ => rfl
  | [], _ :: _, _, _, _, h => by simp at h
  | _ :: _, [], _, _, _, h => by simp at h
  | t :: l, t' :: l', cs, ⟨c1, c2, hc, h1, h2⟩, ⟨d1, d2, hd, g1, g2⟩, h => by
    obtain ⟨e1, e2⟩ := List.append_inj (hc.symm.trans hd) (by rw [RepN.len t c1 h1, RepN.len t' d1 g1])
    subst e1; subst e2
    show max (ndH t) (ndsH l) = max (ndH t') (ndsH l')
    rw [RepN.h t t' c1 h1 g1, RepNl.h l l' c2 h2 g2 (by simpa using h)]
end
theorem RepK.h {w : World} {S S' : Nat → Prop} {a : Option Addr} {n c c' : Nat} {l l' : List Nd} (h : RepK w S (.slice a n c) l) (h' : RepK w S' (.slice a n c') l') : ndsH l = ndsH l' := by
  obtain ⟨cells, ho, _, hl⟩ := h
  obtain ⟨cells', ho', _, hl'⟩ := h'
  have hn : l.length = n := by
    rcases ho.2 with ⟨hv, hn⟩ | ⟨g, cap, cur, hv, _⟩
    · cases hv; exact hn
    · simp only [Value.slice.injEq] at hv; exact hv.2.1.symm
  have hn' : l'.length = n := by
    rcases ho'.2 with ⟨hv, h0⟩ | ⟨g, cap, cur, hv, _⟩
    · cases hv; exact h0
    · simp only [Value.slice.injEq] at hv; exact hv.2.1.symm
  have hx : cells = cells' := by
    rcases ho.2 with ⟨hv, h0⟩ | ⟨g, cap, cur, hv, _, hh, _, _, _, ht⟩
    · have a := ho.1
      have b := ho'.1
      rw [hn', ← hn, h0] at b
      rw [h0] at a
      simp at a b
      rw [a, b]
    · rcases ho'.2 with ⟨hv', h0'⟩ | ⟨g', cap', cur', hv', _, hh', _, _, _, ht'⟩
      · simp only [Value.slice.injEq] at hv hv'
        rw [hv'.1] at hv; simp at hv
      · simp only [Value.slice.injEq] at hv hv'
        rw [hv.1] at hv'
        simp only [Option.some.injEq, Addr.mk.injEq] at hv'
        obtain ⟨⟨rfl, _, _⟩, _, _⟩ := hv'
        rw [hh] at hh'
        simp only [Option.some.injEq, Obj.cells.injEq] at hh'
        obtain ⟨rfl, _⟩ := hh'
        rw [← ht, ← ht', hn, hn']
  subst hx
  exact RepNl.h l l' cells hl hl' (by rw [hn, hn'])
def kidV (g n : Nat) : Value := .agg #[.pointer (some ⟨g, 0, none⟩), .int .i64 n]
theorem fieldsKid : Tryz.prog.fieldsOf 76 = #[{ name := "first", type := 74, offset := 0, embedded := false, tag := "", pkgPath := "crosstree/parse", byteOffset := 0 }, { name := "size", type := 3, offset := 1, embedded := false, tag := "", pkgPath := "crosstree/parse", byteOffset := 8 }] := by kernel_rfl
theorem heldKid : Tryz.prog.stoodInHeld 76 = false := by kernel_rfl
theorem undPN : Tryz.prog.underlying 74 = some (.pointer 28) := by kernel_rfl
theorem infoN8 : ∃ j, Tryz.prog.info? 28 = some j ∧ j.size ≠ 0 := by
  have h : (Tryz.prog.info? 28).map (fun i => decide (i.size = 0)) = some false := by kernel_rfl
  obtain ⟨j, h1, h2⟩ := Option.map_eq_some_iff.1 h
  exact ⟨j, h1, by simpa using h2⟩
theorem partN_0 (w : World) (u v : Value) : (part 74 #[u, v] 0).run Tryz.prog w = .ok u w := by
  simp [part, go_sem]
theorem partN_1 (w : World) (u v : Value) : (part 3 #[u, v] 1).run Tryz.prog w = .ok v w := by
  simp [part, go_sem]
theorem ptrN_off (w : World) (d : Nat) {a c : Addr} {ca cc : Array Value} {ta tc : TypeId} (hne : a ≠ c) (ha : w.heap[a.block]? = some (.cells ca ta (0, 0))) (hc : w.heap[c.block]? = some (.cells cc tc (0, 0))) :
    (Op.equalIn (d + 1) 74 (.pointer (some a)) (.pointer (some c))).run Tryz.prog w = .ok false w := by
  obtain ⟨j, hj, hz⟩ := infoN8
  simp [Op.equalIn, run_underlying undPN, sizeOf, typeInfo, hj, hz, run_sameAddr_other w hne ha hc]
theorem ptrN_same (w : World) (d : Nat) (a : Addr) : (Op.equalIn (d + 1) 74 (.pointer (some a)) (.pointer (some a))).run Tryz.prog w = .ok true w := by
  obtain ⟨j, hj, _⟩ := infoN8
  simp [Op.equalIn, run_underlying undPN, sizeOf, typeInfo, hj, run_sameAddr_same]
theorem intN_eq (w : World) (d : Nat) (a b : Int) : (Op.equalIn (d + 1) 3 (.int .i64 a) (.int .i64 b)).run Tryz.prog w = .ok (a == b) w := by
  simp [Op.equalIn, run_underlying Tryz.underlying3]
theorem key_eqs (w : World) {g g' n n' : Nat} {ca cc : Array Value} {ta tc : TypeId} (ha : w.heap[g]? = some (.cells ca ta (0, 0))) (hc : w.heap[g']? = some (.cells cc tc (0, 0))) :
    ∃ b, (Op.equal 76 (kidV g n) (kidV g' n')).run Tryz.prog w = .ok b w ∧ (b = true → g = g' ∧ n = n') := by
  unfold Op.equal kidV
  show ∃ b, (Op.equalIn (9999 + 1) 76 _ _).run _ _ = _ ∧ _
  rw [run_equalIn_struct w 9999 76 _ _ (by rw [fieldsKid]; exact Tryz.underlying76) heldKid, fieldsKid]
  by_cases hg : g = g'
  · subst hg
    refine ⟨(n : Int) == (n' : Int), ?_, fun h => ⟨rfl, by have h1 := eq_of_beq h; omega⟩⟩
    cases hb : ((n : Int) == (n' : Int)) <;> simp [Op.eqFields, partN_0, partN_1, ptrN_same w 9998, intN_eq w 9998, hb]
  · refine ⟨false, ?_, by simp⟩
    have hne : (⟨g, 0, none⟩ : Addr) ≠ ⟨g', 0, none⟩ := fun e => hg (by injection e)
    simp [Op.eqFields, partN_0, ptrN_off w 9998 hne ha hc]
theorem check_kid (w : World) (e : Bool) (m : Nat) (g n : Nat) : (Instr.checkKey e (m + 2) 76 (kidV g n)).run Tryz.prog w = .ok () w := by
  unfold kidV Instr.checkKey
  simp [run_underlying Tryz.underlying76, partN_0, partN_1, Instr.checkKey, run_underlying undPN, run_underlying Tryz.underlying3]
/-- Every key says where a list lies that stands. -/
def KeysAt (w : World) (es : List MapEntry) : Prop := ∀ e ∈ es, ∃ g n ca ta, e.key = kidV g n ∧ w.heap[g]? = some (.cells ca ta (0, 0))
theorem find_ask (w : World) {g n : Nat} {ca : Array Value} {ta : TypeId} (ha : w.heap[g]? = some (.cells ca ta (0, 0))) : ∀ (es : List MapEntry) (i : Nat), KeysAt w es →
    ∃ r, (Instr.findAsking 76 (kidV g n) es i).run Tryz.prog w = .ok r w ∧ ∀ j v, r = some (j, v) → i ≤ j ∧ ∃ e, es[j - i]? = some e ∧ e.key = kidV g n ∧ v = e.val
  | [], i, _ => ⟨none, rfl, fun j v h => by cases h⟩
  | e :: es, i, h => by
    obtain ⟨g', n', cc, tc, hk, hc⟩ := h e (by simp)
    obtain ⟨b, hb, hbt⟩ := key_eqs w (n := n) (n' := n') ha hc
    cases b with
    | true =>
      obtain ⟨rfl, rfl⟩ := hbt rfl
      exact ⟨some (i, e.val), by simp [Instr.findAsking, hk, hb], fun j v h => by simp only [Option.some.injEq, Prod.mk.injEq] at h; obtain ⟨rfl, rfl⟩ := h; exact ⟨Nat.le_refl _, e, by simp, hk, rfl⟩⟩
    | false =>
      obtain ⟨r, hr, hrs⟩ := find_ask w ha es (i + 1) (fun x hx => h x (List.mem_cons_of_mem _ hx))
      refine ⟨r, by simp [Instr.findAsking, hk, hb]; exact hr, fun j v h => ?_⟩
      obtain ⟨h1, x, h2, h3, h4⟩ := hrs j v h
      exact ⟨by omega, x, by rw [show j - i = (j - (i + 1)) + 1 by omega]; simpa using h2, h3, h4⟩
theorem find_kid (w : World) {g n : Nat} {ca : Array Value} {ta : TypeId} (ha : w.heap[g]? = some (.cells ca ta (0, 0))) (es : List MapEntry) (h : KeysAt w es) :
    ∃ r, (Instr.findKey 76 (kidV g n) es).run Tryz.prog w = .ok r w ∧ ∀ j v, r = some (j, v) → ∃ e, es[j]? = some e ∧ e.key = kidV g n ∧ v = e.val := by
  cases es with
  | nil => exact ⟨none, by simp [Instr.findKey, run_underlying Tryz.underlying76, Instr.findNow], fun j v h => by cases h⟩
  | cons e es =>
    obtain ⟨r, hr, hrs⟩ := find_ask w (n := n) ha (e :: es) 0 h
    refine ⟨r, by simp [Instr.findKey, run_underlying Tryz.underlying76, Instr.findNow, Instr.sameNow, hr], fun j v h => ?_⟩
    obtain ⟨_, x, h2, h3, h4⟩ := hrs j v h
    exact ⟨x, by simpa using h2, h3, h4⟩
theorem look_kid (w : World) {m g n : Nat} {ca : Array Value} {ta : TypeId} {es : Array MapEntry} {t : Nat} (hm : w.heap[m]? = some (.map es t)) (ha : w.heap[g]? = some (.cells ca ta (0, 0))) (h : KeysAt w es.toList) :
    ∃ v ok, (Instr.lookup 52 (.map (some m)) (kidV g n) true).run Tryz.prog w = .ok (.tuple #[v, .bool ok]) w ∧ (ok = true → ∃ e ∈ es.toList, e.key = kidV g n ∧ v = e.val) ∧ (ok = false → v = .int .i64 0) := by
  obtain ⟨r, hr, hrs⟩ := find_kid w (n := n) ha es.toList h
  unfold Instr.lookup
  cases r with
  | none => exact ⟨.int .i64 0, false, by simp [run_underlying Tryz.underlying52, MapKept.run_getObj_map hm, check_kid w _ 9998, hr, Tryz.zeroValue3], by simp, fun _ => rfl⟩
  | some p =>
    obtain ⟨e, he, hk, hv⟩ := hrs p.1 p.2 rfl
    exact ⟨p.2, true, by simp [run_underlying Tryz.underlying52, MapKept.run_getObj_map hm, check_kid w _ 9998, hr], fun _ => ⟨e, List.mem_of_getElem? he, hk, hv⟩, by simp⟩
theorem stays_kid (w : World) (g n : Nat) : (Instr.keyThatStays (kidV g n) (kidV g n)).run Tryz.prog w = .ok (kidV g n) w := by
  have hb : Instr.sameBits (9999 + 1) (kidV g n) (kidV g n) = true := by
    simp [Instr.sameBits, kidV]
  unfold Instr.keyThatStays
  rw [if_pos hb]; rfl
theorem put_kid (w : World) {m g n : Nat} {ca : Array Value} {ta : TypeId} {es : Array MapEntry} {t : Nat} (v : Value) (hm : w.heap[m]? = some (.map es t)) (ha : w.heap[g]? = some (.cells ca ta (0, 0))) (h : KeysAt w es.toList) :
    ∃ es' t', (Instr.mapUpdate 52 (.map (some m)) (kidV g n) v).run Tryz.prog w = .ok () (setBlock w m (.map es' t')) ∧ ∀ e ∈ es'.toList, e ∈ es.toList ∨ (e.key = kidV g n ∧ e.val = v) := by
  obtain ⟨r, hr, hrs⟩ := find_kid w (n := n) ha es.toList h
  unfold Instr.mapUpdate
  cases r with
  | none =>
    refine ⟨es.push ⟨kidV g n, v, t⟩, t + 1, by simp [run_underlying Tryz.underlying52, MapKept.run_getObj_map hm, check_kid w _ 9998, hr, MapKept.run_setObj_map _ hm, setBlock], fun e he => ?_⟩
    simp at he
    rcases he with he | rfl
    · exact .inl (by simpa using he)
    · exact .inr ⟨rfl, rfl⟩
  | some p =>
    obtain ⟨e0, he0, hk0, hv0⟩ := hrs p.1 p.2 rfl
    have hk : ((es[p.1]?.map (·.key)).getD (kidV g n)) = kidV g n := by
      rw [← Array.getElem?_toList, he0]; exact hk0
    refine ⟨es.modify p.1 fun e => { e with key := kidV g n, val := v }, t, by simp [run_underlying Tryz.underlying52, MapKept.run_getObj_map hm, check_kid w _ 9998, hr, hk, stays_kid, MapKept.run_setObj_map _ hm, setBlock], fun e he => ?_⟩
    obtain ⟨j, hj⟩ := List.getElem?_of_mem he
    rw [Array.getElem?_toList, Array.getElem?_modify] at hj
    split at hj
    · obtain ⟨x, hx, rfl⟩ := Option.map_eq_some_iff.1 hj
      exact .inr ⟨rfl, rfl⟩
    · exact .inl (List.mem_of_getElem? (by rw [Array.getElem?_toList]; exact hj))

end Go.Proofs.YtkbplcfehllbjaaGreatDoor
/- levels. -/
namespace Go.Proofs.YtkbplcfehllbjaaGreatDoor
open Go.RowKit
open Go.ChangeMaps
attribute [local go_sem ↓] Go.wp_at_zero Go.wp_at_succ
theorem RepK.len {w : World} {S : Nat → Prop} {a : Option Addr} {n c : Nat} {l : List Nd} (h : RepK w S (.slice a n c) l) : n = l.length := by
  obtain ⟨cells, ho, _, _⟩ := h
  rcases ho.2 with ⟨hv, hn⟩ | ⟨g, cap, cur, hv, _⟩
  · cases hv; exact hn.symm
  · simp only [Value.slice.injEq] at hv; exact hv.2.1
theorem RepK.some_of {w : World} {S : Nat → Prop} {a : Option Addr} {n c : Nat} {l : List Nd} (h : RepK w S (.slice a n c) l) (hl : 0 < l.length) : ∃ g cur, a = some ⟨g, 0, none⟩ ∧ S g ∧ w.heap[g]? = some (.cells cur 28 (0, 0)) ∧ l.length ≤ maxLen := by
  obtain ⟨cells, ho, hs, _⟩ := h
  rcases ho.2 with ⟨hv, hn⟩ | ⟨g, cap, cur, hv, _, hh, h1, h2, _⟩
  · omega
  · simp only [Value.slice.injEq] at hv
    obtain ⟨rfl, _, _⟩ := hv
    exact ⟨g, cur, rfl, hs g rfl, hh, by omega⟩
theorem ndsH_pos : ∀ (l : List Nd), 0 < l.length → 0 < ndsH l
  | .mk _ _ _ _ _ :: l, _ => by show 0 < max (1 + _) _; omega
def KnownE (w : World) (S : Nat → Prop) (es : Array MapEntry) : Prop :=
  ∀ e ∈ es.toList, ∃ (g n c : Nat) (nl : List Nd), e.key = kidV g n ∧ e.val = .int .i64 (ndsH nl) ∧ ndsH nl ≤ 249 ∧ 0 < nl.length ∧ RepK w S (.slice (some ⟨g, 0, none⟩) n c) nl
def Known (w : World) (S : Nat → Prop) (m : Nat) : Prop := ∃ es t, w.heap[m]? = some (.map es t) ∧ KnownE w S es
theorem RepK.over {S : Nat → Prop} {a b : World} {v : Value} {l : List Nd} {m : Nat} (h : RepK a S v l) (g : a.grownBy b (some m)) (hm : ¬ S m) : RepK b S v l :=
  h.mono (fun _ hs _ => hs) (fun k hk hl => g.block k hl (by intro e; cases e; exact hm hk))
theorem KnownE.over {S : Nat → Prop} {a b : World} {es : Array MapEntry} {m : Nat} (h : KnownE a S es) (g : a.grownBy b (some m)) (hm : ¬ S m) : KnownE b S es := fun e he => by
  obtain ⟨gg, n, c, nl, h1, h2, h3, h4, h5⟩ := h e he
  exact ⟨gg, n, c, nl, h1, h2, h3, h4, h5.over g hm⟩
theorem KnownE.keys {S : Nat → Prop} {a : World} {es : Array MapEntry} (h : KnownE a S es) : KeysAt a es.toList := fun e he => by
  obtain ⟨gg, n, c, nl, h1, h2, h3, h4, h5⟩ := h e he
  obtain ⟨g', cur, h6, _, h7, _⟩ := h5.some_of h4
  cases h6
  exact ⟨gg, n, _, _, h1, h7⟩
def LvP (l : List Nd) (most : Nat) (S : Nat → Prop) (m : Nat) (w : World) (e : Ending) (w' : World) : Prop :=
  ∃ r : Nat, e = .returned (.int .i64 r) ∧ w.grownBy w' (some m) ∧ Known w' S m ∧ r ≤ 250 + most ∧ (ndsH l ≤ most → r = ndsH l) ∧ (most < ndsH l → most < r)
set_option maxRecDepth 100000 in
set_option maxHeartbeats 2000000 in
theorem levels_nil (S : Nat → Prop) (m most : Nat) (a : Option Addr) (c : Nat) (w : World) (hK : Known w S m) : Calls Tryz.prog 18 #[.slice a 0 c, .int .i64 most, .map (some m)] w (LvP [] most S m w) := by
  go_enter Tryz.func18, Tryz.ntmps18
  go_wp2_with fail
  go_ret
  exact ⟨0, rfl, grownBy_refl _ _, hK, by omega, fun _ => rfl, fun h => absurd h (by simp [ndsH])⟩
set_option maxRecDepth 100000 in
set_option maxHeartbeats 2000000 in
theorem levels_zero (S : Nat → Prop) (m : Nat) (l : List Nd) (a : Option Addr) (n c : Nat) (w : World) (hR : RepK w S (.slice a n c) l) (hl : 0 < l.length) (hK : Known w S m) : Calls Tryz.prog 18 #[.slice a n c, .int .i64 (0 : Nat), .map (some m)] w (LvP l 0 S m w) := by
  have hn := hR.len
  have hp := Lib.hid (ndsH_pos l hl)
  have h1 : 1 ≤ n := by omega
  have h2 : ¬ (n : Int) = 0 := by omega
  have HK := Lib.hid hK
  clear hR hn hl hK
  go_enter Tryz.func18, Tryz.ntmps18
  go_wp2_with fail
  all_goals go_ret
  all_goals have hp := hp.out
  · exact ⟨1, rfl, grownBy_refl _ _, HK.out, by omega, fun h => by omega, fun _ => by omega⟩
  · exact ⟨n, rfl, grownBy_refl _ _, HK.out, by omega, fun h => by omega, fun _ => by omega⟩

/-- One level. -/
theorem grownBy_setMap {a b : World} {m t : Nat} {es : Array MapEntry} (h : a.grownBy b (some m)) (hb : b.heap[m]? = some (.map es t)) (o : Obj) : a.grownBy (setBlock b m o) (some m) :=
  ⟨h.os, h.tape, h.output, by simp [setBlock]; exact h.size, fun k hk hn => by rw [heap_setBlock_other hb o (fun e => hn (by rw [e]))]; exact h.block k hk hn⟩
def Levels (S : Nat → Prop) (m most : Nat) : Prop := ∀ (l : List Nd) (v : Value) (w : World), RepK w S v l → Known w S m → Calls Tryz.prog 18 #[v, .int .i64 most, .map (some m)] w (LvP l most S m w)
theorem RepNl.kid {w : World} {S : Nat → Prop} : ∀ (l : List Nd) (cs : List Value), RepNl w S l cs → ∀ (k : Nat) (h : k < l.length), ∃ (c1 c2 : List Value) (x0 x1 x2 x3 x4 x5 x6 kv : Value), cs = c1 ++ ([x0, x1, x2, x3, x4, x5, x6, kv] ++ c2) ∧ c1.length = k * 8 ∧ RepK w S kv (l[k]).kids
  | [], cs, _, k, h => absurd h (by simp)
  | a :: l, cs, ⟨d1, d2, hd, h1, h2⟩, 0, _ => by
    cases a with
    | mk k tx n t kids =>
      obtain ⟨ofv, kv, rfl, hof, hk⟩ := h1
      exact ⟨[], d2, _, _, _, _, _, _, _, kv, hd, rfl, hk⟩
  | a :: l, cs, ⟨d1, d2, hd, h1, h2⟩, k + 1, h => by
    obtain ⟨c1, c2, x0, x1, x2, x3, x4, x5, x6, kv, e1, e2, e3⟩ := RepNl.kid l d2 h2 k (by simpa using h)
    exact ⟨d1 ++ c1, c2, x0, x1, x2, x3, x4, x5, x6, kv, by rw [hd, e1, List.append_assoc], by rw [List.length_append, RepN.len a d1 h1, e2]; omega, e3⟩
theorem RepK.kid {w : World} {S : Nat → Prop} {g n c : Nat} {l : List Nd} (h : RepK w S (.slice (some ⟨g, 0, none⟩) n c) l) (k : Nat) (hk : k < l.length) : ∃ ka kn kc, w.cell? ⟨g, k * 8 + 7, none⟩ = some (.slice ka kn kc) ∧ RepK w S (.slice ka kn kc) (l[k]).kids := by
  have hn := h.len
  obtain ⟨cells, ho, _, hl⟩ := h
  obtain ⟨c1, c2, x0, x1, x2, x3, x4, x5, x6, kv, e1, e2, e3⟩ := RepNl.kid l cells hl k hk
  obtain ⟨ka, kn, kc, rfl⟩ := e3.isSlice
  subst e1; subst hn
  exact ⟨ka, kn, kc, (row_cells8 ho e2).2.2.2.2.2.2.2, e3⟩
theorem ndsH_take (l : List Nd) (i : Nat) (h : i < l.length) : ndsH (l.take (i + 1)) = max (ndsH (l.take i)) (1 + ndsH (l[i]).kids) := by
  induction l generalizing i with
  | nil => simp at h
  | cons a l ih =>
    cases i with
    | zero =>
      cases a with
      | mk k tx n t kids => simp [ndsH, ndH, Nd.kids]
    | succ i =>
      have := ih i (by simpa using h)
      simp only [List.take_succ_cons, ndsH, this, List.getElem_cons_succ]
      omega
theorem ndsH_take_le (l : List Nd) (i : Nat) : ndsH (l.take i) ≤ ndsH l := by
  induction l generalizing i with
  | nil => simp
  | cons a l ih =>
    cases i with
    | zero => simp [ndsH]
    | succ i =>
      have := ih i
      simp only [List.take_succ_cons, ndsH]
      omega
set_option maxRecDepth 100000 in
set_option maxHeartbeats 4000000 in
theorem levels_more (S : Nat → Prop) (m most : Nat) (hmS : ¬ S m) (hmost : most + 1 ≤ 249) (ih : Levels S m most) (l : List Nd) (g n c : Nat) (w : World) (hR : RepK w S (.slice (some ⟨g, 0, none⟩) n c) l) (hl : 0 < l.length) (hK : Known w S m) :
    Calls Tryz.prog 18 #[.slice (some ⟨g, 0, none⟩) n c, .int .i64 (most + 1 : Nat), .map (some m)] w (LvP l (most + 1) S m w) := by
  have hn := hR.len
  obtain ⟨g', cur, he, hSg, hg, hlen⟩ := hR.some_of hl
  cases he
  have hp := Lib.hid (ndsH_pos l hl)
  have h1 : 1 ≤ n := by omega
  have h2 : ¬ (n : Int) = 0 := by omega
  have h2' : ((n : Int) == 0) = false := by simpa using h2
  have h3 : ¬ ((most : Int) + 1) = 0 := by omega
  have h4 : (((most : Int) + 1) == 0) = false := by simpa using h3
  have h5 : (0 : Int) < n := by omega
  have hgl := lt_of_heap hg
  obtain ⟨es, t, hm, hE⟩ := hK
  have hml := lt_of_heap hm
  have hgm : g ≠ m := fun e => hmS (e ▸ hSg)
  obtain ⟨v, ok, hlk, hyes, hno⟩ := look_kid (w.alloc (.cells #[.pointer (some ⟨g, 0, none⟩), .int .i64 n] 76)) (n := n) (blk_alloc hm _) (blk_alloc hg _) (KnownE.keys (hE.over (gr_alloc (grownBy_refl w _) _) hmS))
  have HM := Lib.hid hm
  have HE := Lib.hid hE
  have HR := Lib.hid hR
  have HI := Lib.hid ih
  have HN := Lib.hid hn
  have HG := Lib.hid hg
  have HL := Lib.hid hlen
  have HY := Lib.hid hyes
  have HO := Lib.hid hno
  clear hR hn hl ih hg hlen hm hE hyes hno
  unfold kidV at hlk
  cases ok with
  | true =>
    obtain ⟨e, he, hk, hv⟩ := HY.out rfl
    obtain ⟨g2, n2, c2, nl, e1, e2, e3, e4, e5⟩ := HE.out e he
    rw [hk] at e1
    simp only [kidV, Value.agg.injEq] at e1
    have e6 := congrArg Array.toList e1
    simp only [List.cons.injEq, Value.pointer.injEq, Option.some.injEq, Addr.mk.injEq, Value.int.injEq] at e6
    have e7 : g = g2 := e6.1.1
    have e8 : n = n2 := by have := e6.2.1.2; omega
    subst e7; subst e8
    have e9 := e5.h HR.out
    have hv2 : v = .int .i64 (ndsH l : Nat) := by rw [hv, e2, e9]
    subst hv2
    have E9 := Lib.hid e9
    have E3 := Lib.hid e3
    clear HY HO e1 e6 e2 hv e9 e3
    go_enter Tryz.func18, Tryz.ntmps18
    go_wp2_with fail
    go_ret
    have e9 := E9.out
    have e3 := E3.out
    exact ⟨ndsH l, rfl, gr_alloc (grownBy_refl _ _) _, ⟨es, t, blk_alloc HM.out _, HE.out.over (gr_alloc (grownBy_refl w _) _) hmS⟩, by omega, fun _ => rfl, fun h => h⟩
  | false =>
    have hv := HO.out rfl
    subst hv
    clear HY HO
    go_enter Tryz.func18, Tryz.ntmps18
    go_wp2_with fail
    clear hlk h2 h2' h3 h4 h5
    go_loopg [10, 37] n (fun g0 x y wr => ∃ i : Nat, i ≤ n ∧ g0 = n - i ∧ y = .int .i64 i ∧ x = .int .i64 (ndsH (l.take i) : Nat) ∧ ndsH (l.take i) ≤ most + 1 ∧ Hid (w.grownBy wr (some m)) ∧ Hid (Known wr S m) ∧ Hid (wr.heap[w.heap.size]? = some (.cells #[.pointer (some ⟨g, 0, none⟩), .int .i64 n] 76 (0, 0))))
    case atStart => exact ⟨0, by omega, by omega, rfl, rfl, by simp [ndsH], gr_alloc (grownBy_refl w _) _, ⟨es, t, blk_alloc HM.out _, HE.out.over (gr_alloc (grownBy_refl w _) _) hmS⟩, blk_new _ _⟩
    case round =>
      obtain ⟨i, hin, rfl, rfl, rfl, hle, HGr, HKn, HB⟩ := hrel
      have HLe := Lib.hid hle
      by_cases hi : i < n
      · have hi' : (i : Int) < n := by omega
        have hn := HN.out
        have hil : i < l.length := by omega
        obtain ⟨ka, kn, kc, hcell, hkid⟩ := (HR.out.over HGr.out hmS).kid i hil
        have htk := ndsH_take l i hil
        generalize (l[i]).kids = kids at hkid htk
        have hC := HI.out _ _ wr hkid HKn.out
        have HT := Lib.hid htk
        have hlen := HL.out
        unfold maxLen at hlen
        have hgr : g < wr.heap.size := by have := HGr.out.size; omega
        generalize ndsH (l.take i) = r at *
        have w1 : IntKind.i64.wrap (((most + 1 : Nat) : Int) - 1) = most := by rw [IntWalk.i64_in _ (by omega)]; omega
        have HC := Lib.hid hC
        have w3 : IntKind.i64.wrap ((i : Int) + 1) = i + 1 := IntWalk.i64_in _ (by omega)
        have HTL := Lib.hid (ndsH_take_le l (i + 1))
        clear htk hC hkid hn hlen hil
        go_wp2_with fail
        refine HC.out.mono ?_
        rintro e w2 ⟨r', rfl, hg2, hK2, hb2, h6, h7⟩
        have w2' : IntKind.i64.wrap (1 + (r' : Int)) = 1 + r' := IntWalk.i64_in _ (by omega)
        have HG2 := Lib.hid (grownBy_trans HGr.out hg2)
        have HK2 := Lib.hid hK2
        have HB2 := Lib.hid (blk_call HB.out hg2 (by simp; omega))
        have H6 := Lib.hid h6
        have H7 := Lib.hid h7
        have hgl2 : g < w2.heap.size := by have := hg2.size; omega
        clear hg2 hK2 h6 h7 w1 hcell HC HI
        by_cases hmx : (r : Int) < 1 + r'
        · have hmx2 : ¬ (1 + (r' : Int)) ≤ r := by omega
          by_cases hgt : ((most + 1 : Nat) : Int) < 1 + r'
          · go_wp2_with fail
            go_ret
            have h6 := H6.out
            have h7 := H7.out
            have ht := HT.out
            have htl := HTL.out
            exact ⟨1 + r', by simp, HG2.out, HK2.out, by omega, fun h => by omega, fun _ => by omega⟩
          · go_wp2_with fail
            have h6 := H6.out
            have h7 := H7.out
            have ht := HT.out
            have hr : ndsH (l.take (i + 1)) = 1 + r' := by omega
            go_roundg (n - (i + 1))
            case measure => omega
            case rel => exact ⟨i + 1, by omega, rfl, by simp, by rw [hr]; simp, by omega, HG2.out, HK2.out, HB2.out⟩
        · have hgt : ¬ ((most + 1 : Nat) : Int) < r := by omega
          go_wp2_with fail
          have h6 := H6.out
          have h7 := H7.out
          have ht := HT.out
          have hr : ndsH (l.take (i + 1)) = r := by omega
          go_roundg (n - (i + 1))
          case measure => omega
          case rel => exact ⟨i + 1, by omega, rfl, by simp, by rw [hr], by omega, HG2.out, HK2.out, HB2.out⟩
      · have hi' : ¬ (i : Int) < n := by omega
        have hn := HN.out
        have heq : l.take i = l := List.take_of_length_le (by omega)
        rw [heq] at HLe ⊢
        have b0 := cell_of_row _ _ 0 _ _ _ HB.out
        have b1 := cell_of_row _ _ 1 _ _ _ HB.out
        simp at b0 b1
        obtain ⟨es1, t1, hm1, hE1⟩ := HKn.out
        have hg1 : wr.heap[g]? = some (.cells cur 28 (0, 0)) := by rw [HGr.out.block _ hgl (by intro e; cases e; exact hgm rfl)]; exact HG.out
        obtain ⟨es2, t2, hup, hes2⟩ := put_kid wr (n := n) (.int .i64 (ndsH l : Nat)) hm1 hg1 hE1.keys
        have HE1 := Lib.hid hE1
        have HM1 := Lib.hid hm1
        have HS2 := Lib.hid hes2
        clear hn heq hm1 hE1 hg1 hes2
        unfold kidV at hup
        go_wp2_with fail
        go_ret
        have hgS := grownBy_setMap (grownBy_refl wr (some m)) HM1.out (.map es2 t2)
        refine ⟨ndsH l, rfl, grownBy_trans HGr.out hgS, ⟨es2, t2, heap_setBlock_same HM1.out _, fun e he => ?_⟩, by have := HLe.out; omega, fun _ => rfl, fun h => h⟩
        rcases HS2.out e he with he | ⟨hk, hv⟩
        · exact (HE1.out.over hgS hmS) e he
        · exact ⟨g, n, c, l, hk, hv, by have := HLe.out; omega, by have := HN.out; omega, (HR.out.over HGr.out hmS).over hgS hmS⟩
theorem levels_any (S : Nat → Prop) (m : Nat) (hmS : ¬ S m) : ∀ (most : Nat), most ≤ 249 → Levels S m most
  | 0, _ => fun l v w hR hK => by
    obtain ⟨a, n, c, rfl⟩ := hR.isSlice
    cases l with
    | nil => have := hR.len; subst this; exact levels_nil S m 0 a c w hK
    | cons t l => exact levels_zero S m _ a n c w hR (by simp) hK
  | most + 1, h => fun l v w hR hK => by
    obtain ⟨a, n, c, rfl⟩ := hR.isSlice
    cases l with
    | nil => have := hR.len; subst this; exact levels_nil S m (most + 1) a c w hK
    | cons t l =>
      obtain ⟨g, _, rfl, _⟩ := hR.some_of (by simp)
      exact levels_more S m most hmS h (levels_any S m hmS most (by omega)) _ g n c w hR (by simp) hK

end Go.Proofs.YtkbplcfehllbjaaGreatDoor
/- Depth. -/
namespace Go.Proofs.YtkbplcfehllbjaaGreatDoor
open Go.RowKit
open Go.ChangeMaps
attribute [local go_sem ↓] Go.wp_at_zero Go.wp_at_succ
set_option maxRecDepth 100000 in
set_option maxHeartbeats 2000000 in
theorem Depth_any (n : Nd) (oa ka : Option Addr) (on oc kn kc : Nat) (S : Nat → Prop) (w : World) (hk : RepK w S (.slice ka kn kc) n.kids) :
    Calls Tryz.prog 13 #[ndV n (.slice oa on oc) (.slice ka kn kc)] w fun e w' => e = .returned (.int .i64 (min (ndH n) 251 : Nat)) ∧ w.grownBy w' none := by
  have hk' : RepK w (fun g => S g ∧ g < w.heap.size) (.slice ka kn kc) n.kids := hk.mono (fun g h1 h2 => ⟨h1, h2⟩) (fun _ _ _ => rfl)
  have HK := Lib.hid hk'
  have hh : ndH n = 1 + ndsH n.kids := by cases n; rfl
  have HH := Lib.hid hh
  have hmm := @run_makeMap Tryz.prog
  unfold ndV
  clear hk hk' hh
  go_enter Tryz.func13, Tryz.ntmps13
  go_wp2_with fail
  have HB := Lib.hid (blk_new (w.alloc (.cells #[.int .i64 n.kind, .string ⟨n.text.toArray⟩, .int .i64 n.num, .int .i64 n.typ.kind, .int .i64 n.typ.num, .string ⟨n.typ.name.toArray⟩, .slice oa on oc, .slice ka kn kc] 28)) (.map #[] 0))
  have HG := Lib.hid (gr_alloc (gr_alloc (grownBy_refl w none) (.cells #[.int .i64 n.kind, .string ⟨n.text.toArray⟩, .int .i64 n.num, .int .i64 n.typ.kind, .int .i64 n.typ.num, .string ⟨n.typ.name.toArray⟩, .slice oa on oc, .slice ka kn kc] 28)) (.map #[] 0))
  have HK2 := Lib.hid ((HK.out.grow (gr_alloc (gr_alloc (grownBy_refl w none) (.cells #[.int .i64 n.kind, .string ⟨n.text.toArray⟩, .int .i64 n.num, .int .i64 n.typ.kind, .int .i64 n.typ.num, .string ⟨n.typ.name.toArray⟩, .slice oa on oc, .slice ka kn kc] 28)) (.map #[] 0))))
  have hsz : (w.alloc (.cells #[.int .i64 n.kind, .string ⟨n.text.toArray⟩, .int .i64 n.num, .int .i64 n.typ.kind, .int .i64 n.typ.num, .string ⟨n.typ.name.toArray⟩, .slice oa on oc, .slice ka kn kc] 28)).heap.size = w.heap.size + 1 := by simp
  rw [hsz] at HB
  generalize (w.alloc (.cells #[.int .i64 n.kind, .string ⟨n.text.toArray⟩, .int .i64 n.num, .int .i64 n.typ.kind, .int .i64 n.typ.num, .string ⟨n.typ.name.toArray⟩, .slice oa on oc, .slice ka kn kc] 28)).alloc (.map #[] 0) = W at *
  refine (levels_any _ (w.heap.size + 1) (by rintro ⟨_, h⟩; omega) 249 (by omega) n.kids _ W HK2.out ⟨#[], 0, HB.out, fun e he => by simp at he⟩).mono ?_
  rintro e w2 ⟨r, rfl, hg, -, hb, h1, h2⟩
  have w1 : IntKind.i64.wrap (1 + (r : Int)) = 1 + r := IntWalk.i64_in _ (by omega)
  have HG2 := Lib.hid (gr_own HG.out hg (fun k hk => by cases hk; omega))
  have H1 := Lib.hid h1
  have H2 := Lib.hid h2
  clear h1 h2 hg
  by_cases hm : (1 + (r : Int)) ≤ 251
  · have hm2 : ¬ (251 : Int) < 1 + r := by omega
    go_wp2_with fail
    all_goals go_ret
    all_goals have h1 := H1.out
    all_goals have h2 := H2.out
    all_goals have hh := HH.out
    all_goals have hmin : ((min (ndH n) 251 : Nat) : Int) = 1 + r := by omega
    all_goals exact ⟨by rw [hmin]; rfl, HG2.out⟩
  · have hm2 : (251 : Int) < 1 + r := by omega
    have hm3 : ¬ (1 + (r : Int)) < 251 := by omega
    go_wp2_with fail
    all_goals go_ret
    all_goals have h1 := H1.out
    all_goals have h2 := H2.out
    all_goals have hh := HH.out
    all_goals have hmin : ((min (ndH n) 251 : Nat) : Int) = 251 := by omega
    all_goals exact ⟨by rw [hmin]; rfl, HG2.out⟩

end Go.Proofs.YtkbplcfehllbjaaGreatDoor
