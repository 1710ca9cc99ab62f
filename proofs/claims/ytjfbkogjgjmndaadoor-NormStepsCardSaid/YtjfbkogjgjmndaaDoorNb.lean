/- layout: elements and single at a number's type, and at an array of one. -/
import Derived.Test.YtjfbkogjgjmndaaDoorNa
import Derived.LaidEqlPtr
import Derived.Maps.OwnSet
import Derived.Laws.AppendOwn
import Derived.Deep.LoopGhost
import Derived.Deep.QuietTactic
import Derived.BigQuiet
namespace Go.Proofs.YtjfbkogjgjmndaaDoor
open Go.RowKit
open Go.ChangeMaps
/-- A number's type in memory, alone in its block. -/
def ArrAt (W : World) (b : Nat) (k : Int) : Prop := W.heap[b]? = some (.cells #[.int .i64 k, .int .i64 0, .string ⟨#[]⟩, .slice none 0 0] 26 (0, 0))
theorem ArrAt.gr {W W' : World} {b : Nat} {k : Int} (h : ArrAt W b k) (g : W.grownBy W' none) : ArrAt W' b k := (g.block b (lt_of_heap h) (by simp)).trans h
theorem ArrAt.cells {W : World} {b : Nat} {k : Int} (h : ArrAt W b k) : W.cell? ⟨b, 0, none⟩ = some (.int .i64 k) ∧ W.cell? ⟨b, 1, none⟩ = some (.int .i64 0) ∧ W.cell? ⟨b, 2, none⟩ = some (.string ⟨#[]⟩) ∧ W.cell? ⟨b, 3, none⟩ = some (.slice none 0 0) := by
  unfold ArrAt at h
  refine ⟨?_, ?_, ?_, ?_⟩ <;> simp [World.cell?, h]
theorem cells4_of {w : World} {b : Nat} {x0 x1 x2 x3 : Value} {t : TypeId} (h : w.heap[b]? = some (.cells #[x0, x1, x2, x3] t (0, 0))) :
    w.cell? ⟨b, 0, none⟩ = some x0 ∧ w.cell? ⟨b, 1, none⟩ = some x1 ∧ w.cell? ⟨b, 2, none⟩ = some x2 ∧ w.cell? ⟨b, 3, none⟩ = some x3 ∧ w.frozen? ⟨b, 0, none⟩ = false ∧ w.frozen? ⟨b, 1, none⟩ = false ∧ w.frozen? ⟨b, 2, none⟩ = false ∧ w.frozen? ⟨b, 3, none⟩ = false := by
  refine ⟨?_, ?_, ?_, ?_, ?_, ?_, ?_, ?_⟩ <;> simp [World.cell?, World.frozen?, h]
theorem put4 {w : World} {b t : Nat} {u0 u1 u2 u3 : Value} (h : w.heap[b]? = some (.cells #[u0, u1, u2, u3] t (0, 0))) (v0 v1 v2 v3 : Value) : ((((w.setCell ⟨b, 0, none⟩ v0).setCell ⟨b, 1, none⟩ v1).setCell ⟨b, 2, none⟩ v2).setCell ⟨b, 3, none⟩ v3).heap[b]? = some (.cells #[v0, v1, v2, v3] t (0, 0)) := by
  simp [World.setCell, Array.getElem?_modify, h]
theorem gr_set4 {a w : World} {b : Nat} (h : a.grownBy w none) (hb : a.heap.size ≤ b) (v0 v1 v2 v3 : Value) : a.grownBy ((((w.setCell ⟨b, 0, none⟩ v0).setCell ⟨b, 1, none⟩ v1).setCell ⟨b, 2, none⟩ v2).setCell ⟨b, 3, none⟩ v3) none :=
  (((h.gr_set (p := ⟨b, 0, none⟩) hb _).gr_set (p := ⟨b, 1, none⟩) hb _).gr_set (p := ⟨b, 2, none⟩) hb _).gr_set (p := ⟨b, 3, none⟩) hb _
/-- A number's type. -/
def scV (k : Int) : Value := tV k 0 ⟨#[]⟩ (.slice none 0 0)
/-- An array of n of them. -/
def arV (n : Int) (b c : Nat) : Value := tV 6 n ⟨#[]⟩ (.slice (some ⟨b, 0, none⟩) 1 c)
/-! A map whose keys are pointers, with nothing in it. -/
theorem undPT : Tryd.prog.underlying 64 = some (.pointer 26) := by kernel_rfl
theorem check_ptr (w : World) (e : Bool) (n : Nat) (a : Addr) : (Instr.checkKey e (n + 1) 64 (.pointer (some a))).run Tryd.prog w = .ok () w := by
  unfold Instr.checkKey
  simp [run_underlying undPT]
theorem find_nil (w : World) (k : Value) : (Instr.findKey 64 k []).run Tryd.prog w = .ok none w := by
  simp [Instr.findKey, run_underlying undPT, Instr.findNow]
theorem look_none (w : World) {m t : Nat} {a : Addr} (hm : w.heap[m]? = some (.map #[] t)) :
    (Instr.lookup 63 (.map (some m)) (.pointer (some a)) true).run Tryd.prog w = .ok (.tuple #[.agg #[], .bool false]) w := by
  unfold Instr.lookup
  simp [run_underlying Tryd.underlying63, MapKept.run_getObj_map hm, check_ptr w _ 9999, find_nil, Tryd.zeroValue44]
theorem put_one (w : World) {m t : Nat} {a : Addr} {u : Value} (hm : w.heap[m]? = some (.map #[] t)) :
    (Instr.mapUpdate 63 (.map (some m)) (.pointer (some a)) u).run Tryd.prog w = .ok () (setBlock w m (.map #[⟨.pointer (some a), u, t⟩] (t + 1))) := by
  unfold Instr.mapUpdate
  simp [run_underlying Tryd.underlying63, MapKept.run_getObj_map hm, check_ptr w _ 9999, find_nil, MapKept.run_setObj_map _ hm, setBlock]
theorem grownBy_setBlock {a b : World} {m t : Nat} {es : Array MapEntry} (h : a.grownBy b none) (hm : a.heap.size ≤ m) (hb : b.heap[m]? = some (.map es t)) (o : Obj) : a.grownBy (setBlock b m o) none :=
  ⟨h.os, h.tape, h.output, by simp [setBlock]; exact h.size, fun k hk hn => by rw [heap_setBlock_other hb o (by omega)]; exact h.block k hk hn⟩
theorem setBlock_other {b : World} {m t k : Nat} {es : Array MapEntry} {o' : Obj} (h : b.heap[k]? = some o') (hb : b.heap[m]? = some (.map es t)) (hne : k ≠ m) (o : Obj) : (setBlock b m o).heap[k]? = some o' := by
  rw [heap_setBlock_other hb o hne]; exact h
theorem blk_new (w : World) (o : Obj) : (w.alloc o).heap[w.heap.size]? = some o := heap_alloc_new w o
theorem blk_alloc {w : World} {b : Nat} {o : Obj} (h : w.heap[b]? = some o) (o' : Obj) : (w.alloc o').heap[b]? = some o := (Below.heap_alloc _ _ _ (lt_of_heap h)).trans h
theorem gr_own {a b c : World} {r : Option Nat} (h : a.grownBy b none) (g : b.grownBy c r) (hr : ∀ k, r = some k → a.heap.size ≤ k) : a.grownBy c none :=
  ⟨g.os.trans h.os, g.tape.trans h.tape, g.output.trans h.output, Nat.le_trans h.size g.size, fun k hk _ => (g.block k (Nat.lt_of_lt_of_le hk h.size) (fun e => by have := hr k e.symm; omega)).trans (h.block k hk (by simp))⟩
set_option maxRecDepth 100000 in
set_option maxHeartbeats 4000000 in
theorem elements_sc (k : Int) (hk : k ≠ 6) (w : World) :
    Calls Tryd.prog 18 #[scV k] w fun e w' => e = .returned (.tuple #[scV k, .slice none 0 0, .bool true]) ∧ w.grownBy w' none := by
  unfold scV tV
  have e1 : (k == 6) = false := by simp [hk]
  have hmm := @run_makeMap Tryd.prog
  go_enter Tryd.func18, Tryd.ntmps18
  go_wp2_with fail
  have h1 : (((w.alloc (.cells #[.int .i64 k, .int .i64 0, .string ⟨#[]⟩, .slice none 0 0] 26)).alloc (.cells #[.int .i64 0, .int .i64 0, .string ⟨#[]⟩, .slice none 0 0] 26)).alloc (.map #[] 0)).heap[w.heap.size]? = some (.cells #[.int .i64 k, .int .i64 0, .string ⟨#[]⟩, .slice none 0 0] 26 (0, 0)) := blk_alloc (blk_alloc (blk_new w _) _) _
  have h2 : (((w.alloc (.cells #[.int .i64 k, .int .i64 0, .string ⟨#[]⟩, .slice none 0 0] 26)).alloc (.cells #[.int .i64 0, .int .i64 0, .string ⟨#[]⟩, .slice none 0 0] 26)).alloc (.map #[] 0)).heap[w.heap.size + 1]? = some (.cells #[.int .i64 0, .int .i64 0, .string ⟨#[]⟩, .slice none 0 0] 26) := by
    have := blk_alloc (blk_new (w.alloc (.cells #[.int .i64 k, .int .i64 0, .string ⟨#[]⟩, .slice none 0 0] 26)) (.cells #[.int .i64 0, .int .i64 0, .string ⟨#[]⟩, .slice none 0 0] 26)) (.map #[] 0)
    simpa using this
  have h3 : w.grownBy (((w.alloc (.cells #[.int .i64 k, .int .i64 0, .string ⟨#[]⟩, .slice none 0 0] 26)).alloc (.cells #[.int .i64 0, .int .i64 0, .string ⟨#[]⟩, .slice none 0 0] 26)).alloc (.map #[] 0)) none := by repeat (first | with_reducible exact grownBy_refl _ _ | with_reducible assumption | with_reducible refine World.grownBy.gr_drew ?_ | with_reducible refine World.grownBy.gr_set ?_ (by simp) _ | with_reducible refine gr_alloc ?_ _)
  generalize (((w.alloc (.cells #[.int .i64 k, .int .i64 0, .string ⟨#[]⟩, .slice none 0 0] 26)).alloc (.cells #[.int .i64 0, .int .i64 0, .string ⟨#[]⟩, .slice none 0 0] 26)).alloc (.map #[] 0)) = W at *
  have H1 := Lib.hid h1
  have H2 := Lib.hid h2
  have H3 := Lib.hid h3
  clear hmm h1 h2 h3
  go_loopw [5] (fun c wr => c = .slice none 0 0 ∧ W = wr) (fun _ _ => 0)
  case atStart => exact ⟨rfl, rfl⟩
  case round =>
    obtain ⟨rfl, rfl⟩ := hrel
    obtain ⟨c0, c1, c2, c3, _, _, _, _⟩ := cells4_of H1.out
    obtain ⟨d0, d1, d2, d3, z0, z1, z2, z3⟩ := cells4_of H2.out
    go_wp2_with fail
    obtain ⟨s0, s1, s2, s3, _⟩ := cells4_of (put4 H2.out (.int .i64 k) (.int .i64 0) (.string ⟨#[]⟩) (.slice none 0 0))
    refine bodyPost_ret (v := .tuple #[.agg #[.int .i64 k, .int .i64 0, .string ⟨#[]⟩, .slice none 0 0], .slice none 0 0, .bool true]) (by simp [results, Tryd.results18, go_sem, s0, s1, s2, s3]) rfl ⟨rfl, gr_set4 H3.out (by omega) _ _ _ _⟩
theorem infoInt : (Tryd.prog.info? 3).map (fun i => (i.zero, i.size, i.bytes)) = some (some (.int .i64 0), 1, 8) := by kernel_rfl
theorem info_parts {t : TypeId} {z : Value} {n m : Nat} (h : (Tryd.prog.info? t).map (fun i => (i.zero, i.size, i.bytes)) = some (some z, n, m)) : ∃ i, Tryd.prog.info? t = some i ∧ i.zero = some z ∧ i.size = n ∧ i.bytes = m := by
  obtain ⟨i, hi, he⟩ := Option.map_eq_some_iff.1 h
  simp only [Prod.mk.injEq] at he
  exact ⟨i, hi, he.1, he.2.1, he.2.2⟩
/-- One number in a slice of the call's own. -/
def OneI (B : Nat) (W : World) (v : Value) (n : Int) : Prop := W.ownsRow B 3 1 v 1 [.int .i64 n]
theorem OneI.gr {B : Nat} {W W' : World} {v : Value} {n : Int} (h : OneI B W v n) (g : W.grownBy W' none) : OneI B W' v n :=
  ⟨h.1, h.2.imp id fun ⟨q, cap, cur, e, hb, hh, r⟩ => ⟨q, cap, cur, e, hb, (g.block q (lt_of_heap hh) (by simp)).trans hh, r⟩⟩
theorem OneI.not_box {B : Nat} {W : World} {v : Value} {n : Int} {q : Nat} {cs : Array Value} {t : TypeId} {fz : Nat × Nat} (h : OneI B W v n) (hq : W.heap[q]? = some (.cells cs t fz)) (ht : t ≠ 3) : ∀ g, v.ownBlock = some g → g ≠ q := by
  intro g hg e
  subst e
  rcases h.2 with ⟨h7, _⟩ | ⟨g', cap, cur, h7, _, hh, _⟩
  · subst h7; simp [Value.ownBlock] at hg
  · subst h7
    simp [Value.ownBlock] at hg
    subst hg
    rw [hq] at hh
    injection hh with hh
    injection hh with _ hh
    exact ht hh
theorem OneI.set4 {B : Nat} {W : World} {v : Value} {n : Int} {q : Nat} (h : OneI B W v n) (hq : ∀ g, v.ownBlock = some g → g ≠ q) (v0 v1 v2 v3 : Value) : OneI B ((((W.setCell ⟨q, 0, none⟩ v0).setCell ⟨q, 1, none⟩ v1).setCell ⟨q, 2, none⟩ v2).setCell ⟨q, 3, none⟩ v3) v n := by
  refine ⟨h.1, h.2.imp id fun ⟨g, cap, cur, e, hb, hh, r⟩ => ⟨g, cap, cur, e, hb, ?_, r⟩⟩
  have h1 := hq g (by rw [e]; rfl)
  exact ((((Below.heap_setCell _ _ _ _ h1).trans (Below.heap_setCell _ _ _ _ h1)).trans (Below.heap_setCell _ _ _ _ h1)).trans (Below.heap_setCell _ _ _ _ h1)).trans hh
theorem app_one {w : World} {ops : Array Oper} {rest : List Oper} {o : Oper} {a : Act} {Q : Exit → Act → World → Prop} (hgd : o.guard = none) (s x : Operand)
    (ho : o.op = .call { callee := .builtin .append, args := #[s, x], argTypes := #[32, 32] })
    (base : Nat) (hs : a.eval s = .slice none 0 0) (b : Nat) (y : Int) (fz : Nat × Nat)
    (hx : a.eval x = .slice (some ⟨b, 0, none⟩) 1 1) (hb : w.heap[b]? = some (.cells #[.int .i64 y] 3 fz)) (hbase : base ≤ w.heap.size)
    (h : ∀ v' w', OneI base w' v' y → w.grownBy w' none → wpList Tryd.prog ops Q rest (a.put o.dst v') w') : wpList Tryd.prog ops Q (o :: rest) a w := by
  obtain ⟨i0, hi, hz0, hz1, hz2⟩ := info_parts infoInt
  refine wpList_append_own w hgd s x 32 ho base 3 i0 _ 1 8 Tryd.underlying32 hi hz0 hz1 hz2 rfl (by decide) (.slice none 0 0) 0 [] hs (World.ownsRow_nil _ _ _ _) ⟨b, 0, none⟩ 1 1 [.int .i64 y] hx rfl ?_ ?_ ?_ ?_ hbase fun v' w' h2 h3 _ => h v' w' ?_ h3
  · intro j u hu
    have e : (⟨b, 0, none⟩ : Addr).add j = ⟨b, j, none⟩ := by unfold Addr.add; split <;> simp_all
    rw [e, cell_of_row _ _ _ _ _ _ hb, ← Array.getElem?_toList]
    exact hu
  · intro u hu; simp at hu; subst hu; rfl
  · unfold maxLen; omega
  · omega
  · exact h2
set_option maxRecDepth 100000 in
set_option maxHeartbeats 4000000 in
theorem elements_ar (n k : Int) (b c : Nat) (hk : k ≠ 6) (hn : 1 ≤ n) (w : World) (hb : ArrAt w b k) :
    Calls Tryd.prog 18 #[arV n b c] w fun e w' => (∃ v, e = .returned (.tuple #[scV k, v, .bool true]) ∧ OneI w.heap.size w' v n) ∧ w.grownBy w' none := by
  unfold scV arV tV
  have e1 : (k == 6) = false := by simp [hk]
  have hmm := @run_makeMap Tryd.prog
  have HA := Lib.hid hb
  have hbl := lt_of_heap hb
  clear hb
  go_enter Tryd.func18, Tryd.ntmps18
  go_wp2_with fail
  have h1 : (((w.alloc (.cells #[.int .i64 6, .int .i64 n, .string ⟨#[]⟩, .slice (some ⟨b, 0, none⟩) 1 c] 26)).alloc (.cells #[.int .i64 0, .int .i64 0, .string ⟨#[]⟩, .slice none 0 0] 26)).alloc (.map #[] 0)).heap[w.heap.size]? = some (.cells #[.int .i64 6, .int .i64 n, .string ⟨#[]⟩, .slice (some ⟨b, 0, none⟩) 1 c] 26 (0, 0)) := blk_alloc (blk_alloc (blk_new w _) _) _
  have h2 : (((w.alloc (.cells #[.int .i64 6, .int .i64 n, .string ⟨#[]⟩, .slice (some ⟨b, 0, none⟩) 1 c] 26)).alloc (.cells #[.int .i64 0, .int .i64 0, .string ⟨#[]⟩, .slice none 0 0] 26)).alloc (.map #[] 0)).heap[w.heap.size + 1]? = some (.cells #[.int .i64 0, .int .i64 0, .string ⟨#[]⟩, .slice none 0 0] 26) := by
    have := blk_alloc (blk_new (w.alloc (.cells #[.int .i64 6, .int .i64 n, .string ⟨#[]⟩, .slice (some ⟨b, 0, none⟩) 1 c] 26)) (.cells #[.int .i64 0, .int .i64 0, .string ⟨#[]⟩, .slice none 0 0] 26)) (.map #[] 0)
    simpa using this
  have h4 : (((w.alloc (.cells #[.int .i64 6, .int .i64 n, .string ⟨#[]⟩, .slice (some ⟨b, 0, none⟩) 1 c] 26)).alloc (.cells #[.int .i64 0, .int .i64 0, .string ⟨#[]⟩, .slice none 0 0] 26)).alloc (.map #[] 0)).heap[w.heap.size + 2]? = some (.map #[] 0) := by
    have := blk_new ((w.alloc (.cells #[.int .i64 6, .int .i64 n, .string ⟨#[]⟩, .slice (some ⟨b, 0, none⟩) 1 c] 26)).alloc (.cells #[.int .i64 0, .int .i64 0, .string ⟨#[]⟩, .slice none 0 0] 26)) (.map #[] 0)
    simpa using this
  have h3 : w.grownBy (((w.alloc (.cells #[.int .i64 6, .int .i64 n, .string ⟨#[]⟩, .slice (some ⟨b, 0, none⟩) 1 c] 26)).alloc (.cells #[.int .i64 0, .int .i64 0, .string ⟨#[]⟩, .slice none 0 0] 26)).alloc (.map #[] 0)) none := by repeat (first | with_reducible exact grownBy_refl _ _ | with_reducible assumption | with_reducible refine World.grownBy.gr_drew ?_ | with_reducible refine World.grownBy.gr_set ?_ (by simp) _ | with_reducible refine gr_alloc ?_ _)
  rw [show w.heap.size + 1 + 1 = w.heap.size + 2 from rfl]
  generalize (((w.alloc (.cells #[.int .i64 6, .int .i64 n, .string ⟨#[]⟩, .slice (some ⟨b, 0, none⟩) 1 c] 26)).alloc (.cells #[.int .i64 0, .int .i64 0, .string ⟨#[]⟩, .slice none 0 0] 26)).alloc (.map #[] 0)) = W at *
  have H1 := Lib.hid h1
  have H2 := Lib.hid h2
  have H3 := Lib.hid h3
  have H4 := Lib.hid h4
  clear hmm h1 h2 h3 h4
  go_loopg [5] 1 (fun g0 v wr => Hid (w.grownBy wr none) ∧ Hid (wr.heap[w.heap.size + 1]? = some (.cells #[.int .i64 0, .int .i64 0, .string ⟨#[]⟩, .slice none 0 0] 26)) ∧
    (g0 = 1 ∧ v = .slice none 0 0 ∧ Hid (wr.heap[w.heap.size]? = some (.cells #[.int .i64 6, .int .i64 n, .string ⟨#[]⟩, .slice (some ⟨b, 0, none⟩) 1 c] 26 (0, 0))) ∧ Hid (wr.heap[w.heap.size + 2]? = some (.map #[] 0)) ∨
     g0 = 0 ∧ Hid (wr.heap[w.heap.size]? = some (.cells #[.int .i64 k, .int .i64 0, .string ⟨#[]⟩, .slice none 0 0] 26 (0, 0))) ∧ Hid (OneI w.heap.size wr v n)))
  case atStart => exact ⟨H3, H2, .inl ⟨rfl, rfl, H1, H4⟩⟩
  case round =>
    obtain ⟨HG, HZ, ⟨rfl, rfl, HB, HM⟩ | ⟨rfl, HB, HO⟩⟩ := hrel
    · obtain ⟨c0, c1, c2, c3, f0, f1, f2, f3⟩ := cells4_of HB.out
      obtain ⟨d0, d1, d2, d3⟩ := (HA.out.gr HG.out).cells
      have g1 : decide (n < 1) = false := by simp; omega
      have hlook := fun (a : Addr) => look_none (a := a) wr HM.out
      obtain ⟨W2, hput, p1, p2, p3, p4⟩ : ∃ W2, (Instr.mapUpdate 63 (.map (some (w.heap.size + 2))) (.pointer (some ⟨b, 0, none⟩)) (.agg #[])).run Tryd.prog (wr.alloc (.cells #[] 44)) = .ok () W2 ∧
          w.grownBy W2 none ∧ W2.heap[w.heap.size]? = some (.cells #[.int .i64 6, .int .i64 n, .string ⟨#[]⟩, .slice (some ⟨b, 0, none⟩) 1 c] 26 (0, 0)) ∧ W2.heap[w.heap.size + 1]? = some (.cells #[.int .i64 0, .int .i64 0, .string ⟨#[]⟩, .slice none 0 0] 26) ∧ w.heap.size ≤ W2.heap.size := by
        have hm := blk_alloc HM.out (.cells #[] 44)
        have hg := gr_alloc HG.out (.cells #[] 44)
        exact ⟨_, put_one _ hm, grownBy_setBlock hg (by omega) hm _, setBlock_other (blk_alloc HB.out _) hm (by omega) _, setBlock_other (blk_alloc HZ.out _) hm (by omega) _, (grownBy_setBlock hg (by omega) hm (.map #[⟨.pointer (some ⟨b, 0, none⟩), .agg #[], 0⟩] 1)).size⟩
      obtain ⟨q0, q1, q2, q3, y0, y1, y2, y3⟩ := cells4_of p2
      obtain ⟨r0, r1, r2, r3⟩ := (HA.out.gr p1).cells
      have P1 := Lib.hid p1
      have P2 := Lib.hid p2
      have P3 := Lib.hid p3
      clear p1 p2 p3
      go_wp2_with (at_builtin; go_must (refine app_one rfl (.tmp 38) (.tmp 41) rfl w.heap.size rfl W2.heap.size n _ rfl (heap_alloc_new W2 (.cells #[.int .i64 n] 3)) (by simp only [World.size_alloc]; omega) ?_; intro v3 w3 ho3 hg3; have HNE := Lib.hid (ho3.not_box ((hg3.block _ (lt_of_heap (blk_alloc P2.out _)) (by simp)).trans (blk_alloc P2.out _)) (by decide)); have HO3 := Lib.hid ho3; have HG3 := Lib.hid (grownBy_trans (gr_alloc (grownBy_refl W2 none) _) hg3); clear ho3 hg3; obtain ⟨x0, x1, x2, x3, z0, z1, z2, z3⟩ := cells4_of ((HG3.out.block _ (lt_of_heap P2.out) (by simp)).trans P2.out); obtain ⟨m0, m1, m2, m3⟩ := (HA.out.gr (grownBy_trans P1.out HG3.out)).cells))
      go_roundg 0
      case measure => omega
      case rel =>
        have hgr := grownBy_trans P1.out HG3.out
        refine ⟨gr_set4 hgr (Nat.le_refl _) _ _ _ _, ?_, .inr ⟨rfl, put4 ((HG3.out.block _ (lt_of_heap P2.out) (by simp)).trans P2.out) _ _ _ _, ?_⟩⟩
        · have hz := (HG3.out.block _ (lt_of_heap P3.out) (by simp)).trans P3.out
          exact ((((Below.heap_setCell _ _ _ _ (by simp)).trans (Below.heap_setCell _ _ _ _ (by simp))).trans (Below.heap_setCell _ _ _ _ (by simp))).trans (Below.heap_setCell _ _ _ _ (by simp))).trans hz
        · exact HO3.out.set4 HNE.out _ _ _ _
    · obtain ⟨c0, c1, c2, c3, _, _, _, _⟩ := cells4_of HB.out
      obtain ⟨d0, d1, d2, d3, z0, z1, z2, z3⟩ := cells4_of HZ.out
      go_wp2_with fail
      have hz := put4 HZ.out (.int .i64 k) (.int .i64 0) (.string ⟨#[]⟩) (.slice none 0 0)
      obtain ⟨s0, s1, s2, s3, _⟩ := cells4_of hz
      refine bodyPost_ret (v := .tuple #[.agg #[.int .i64 k, .int .i64 0, .string ⟨#[]⟩, .slice none 0 0], _, .bool true]) (by simp [results, Tryd.results18, go_sem, s0, s1, s2, s3]; rfl) rfl ⟨⟨_, rfl, ?_⟩, gr_set4 HG.out (by omega) _ _ _ _⟩
      exact HO.out.set4 (HO.out.not_box HZ.out (by decide)) _ _ _ _

end Go.Proofs.YtjfbkogjgjmndaaDoor
