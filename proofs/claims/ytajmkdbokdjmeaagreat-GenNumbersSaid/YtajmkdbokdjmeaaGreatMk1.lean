/- Merged: I1d, I2d, I3d, I4d, I5d, I6d, I7d, I10d, I11d, I12d, I13d. -/
import Derived.Test.YtajmkdbokdjmeaaGreatChecked
import Derived.WalkKit
import Derived.WalkSpells
import Derived.WalkLawsBesides
import Derived.Outline
import Derived.RegionTactic
import Derived.BigRegion
import Derived.WalkSmall
import Derived.Lib.Hide
import Derived.OwnWalk
import Derived.Laws.OwnMore
import Derived.Below
import Derived.OneCell
import Derived.Laws.Externs
import Derived.Lib.Bytealg
import Derived.Laws.RangeAny
import Derived.Laws.AppendOwn
import Derived.Laws.AppendOwnNone
import Derived.LoopTactic
import Derived.Tactics2
import Derived.RangeFuncRecord
import Derived.Deep.QuietTactic
import Derived.BigQuiet
/- ir: the table of rows; within, row. -/
namespace Go.Proofs.YtajmkdbokdjmeaaGreat
open Go.RowKit
/-- The table, op by op. -/
def rowsT : List (List UInt8) := [[], [61], [61, 115], [98, 61], [98, 99, 61], [98, 99, 61, 50], [98, 61, 49], [98, 61, 119], [98, 61, 119], [97, 98, 119], [97, 98, 110], [97, 98, 99], [97, 98, 99], [98, 61, 104], [97], [108, 61, 102], [98, 108, 61, 54], [106], [97, 106], [114], [61]]
def rowsC : Array Value := (rowsT.map fun l => Value.string ⟨l.toArray⟩).toArray
/-- What the row's list gives: the table of rows. -/
def VarsR (w : World) : Prop := ∃ t fr, w.heap[0]? = some (.cells rowsC t fr)
def rowL (op : Int) : List UInt8 := if 0 ≤ op ∧ op < 21 then rowsT[op.toNat]?.getD [] else []
def rowB (op : Int) : ByteArray := ⟨(rowL op).toArray⟩
theorem rowL_out {op : Int} (h : ¬ (0 ≤ op ∧ op < 21)) : rowL op = [] := by unfold rowL; rw [if_neg h]
theorem op_cases {op : Int} (h : 0 ≤ op) (h' : op < 21) : op = 0 ∨ op = 1 ∨ op = 2 ∨ op = 3 ∨ op = 4 ∨ op = 5 ∨ op = 6 ∨ op = 7 ∨ op = 8 ∨ op = 9 ∨ op = 10 ∨ op = 11 ∨ op = 12 ∨ op = 13 ∨ op = 14 ∨ op = 15 ∨ op = 16 ∨ op = 17 ∨ op = 18 ∨ op = 19 ∨ op = 20 := by omega
theorem rows_cell {w : World} (h : VarsR w) {op : Int} (h0 : 0 ≤ op) (h1 : op < 21) : w.cell? ⟨0, op.toNat, none⟩ = some (.string (rowB op)) := by
  obtain ⟨t, fr, h⟩ := h
  rw [cell_of_row w 0 _ _ _ _ h]
  rcases op_cases h0 h1 with rfl | rfl | rfl | rfl | rfl | rfl | rfl | rfl | rfl | rfl | rfl | rfl | rfl | rfl | rfl | rfl | rfl | rfl | rfl | rfl | rfl
  all_goals rfl
theorem grownBy_refl (w : World) (r : Option Nat) : w.grownBy w r := ⟨rfl, rfl, rfl, Nat.le_refl _, fun _ _ _ => rfl⟩
theorem grownBy_trans {a b c : World} {r : Option Nat} (h : a.grownBy b r) (k : b.grownBy c r) : a.grownBy c r :=
  ⟨k.os.trans h.os, k.tape.trans h.tape, k.output.trans h.output, Nat.le_trans h.size k.size, fun i hi hn => (k.block i (Nat.lt_of_lt_of_le hi h.size) hn).trans (h.block i hi hn)⟩
theorem gr_alloc {a b : World} {r : Option Nat} (h : a.grownBy b r) (o : Obj) : a.grownBy (b.alloc o) r :=
  ⟨h.os, h.tape, h.output, Nat.le_trans h.size (by simp), fun k hk hn => (Below.heap_alloc _ _ _ (Nat.lt_of_lt_of_le hk h.size)).trans (h.block k hk hn)⟩
theorem _root_.Go.World.grownBy.gr_drew {a b : World} {r : Option Nat} (h : a.grownBy b r) : a.grownBy b.drew r := ⟨h.os, h.tape, h.output, h.size, h.block⟩
theorem _root_.Go.World.grownBy.gr_set {a b : World} {r : Option Nat} (h : a.grownBy b r) {p : Addr} (hp : a.heap.size ≤ p.block) (v : Value) : a.grownBy (b.setCell p v) r :=
  ⟨h.os, h.tape, h.output, by rw [show (b.setCell p v).heap.size = b.heap.size by simp [World.setCell]]; exact h.size, fun k hk hn => (Below.heap_setCell _ _ _ _ (by omega)).trans (h.block k hk hn)⟩
theorem lt_of_heap {w : World} {b : Nat} {o : Obj} (h : w.heap[b]? = some o) : b < w.heap.size := (Array.getElem?_eq_some_iff.1 h).1
theorem VarsR.grown {w w' : World} (h : VarsR w) (g : w.grownBy w' none) : VarsR w' := by
  obtain ⟨t, fr, h⟩ := h
  exact ⟨t, fr, by rw [g.block _ (lt_of_heap h) (by simp)]; exact h⟩
theorem VarsR.grownB {w w' : World} {r : Option Nat} (h : VarsR w) (g : w.grownBy w' r) (hr : r ≠ some 0) : VarsR w' := by
  obtain ⟨t, fr, h⟩ := h
  exact ⟨t, fr, by rw [g.block _ (lt_of_heap h) (fun e => hr e.symm)]; exact h⟩
theorem VarsR.alloc {w : World} (h : VarsR w) (o : Obj) : VarsR (w.alloc o) := h.grown (gr_alloc (grownBy_refl _ _) o)
theorem VarsR.pos {w : World} (h : VarsR w) : 0 < w.heap.size := by obtain ⟨t, fr, h⟩ := h; exact lt_of_heap h
/-- Is n an index of a list of m? -/
def inB (n m : Int) : Bool := decide (0 ≤ n ∧ n < m)
end Go.Proofs.YtajmkdbokdjmeaaGreat
/- ir: what an instruction writes, in the program's words and in the document's. -/
namespace Go.Proofs.YtajmkdbokdjmeaaGreat
open Go.RowKit
/-- An instruction: its parts, and what its list of arguments holds. -/
structure Ins where
  op : Int
  a : Int
  b : Int
  c : Int
  w : Int
  n : Int
  sign : ByteArray
  aa : Option Addr
  an : Nat
  ac : Nat
  args : List Int
def insC (i : Ins) : Array Value := #[.int .i64 i.op, .int .i64 i.a, .int .i64 i.b, .int .i64 i.c, .int .i64 i.w, .int .i64 i.n, .string i.sign, .slice i.aa i.an i.ac]
def insV (i : Ins) : Value := .agg (insC i)
def wrB (op : Int) : Bool := decide ((1 ≤ op ∧ op ≤ 8) ∨ op = 13 ∨ op = 15 ∨ op = 16 ∨ op = 20)
def wrI (i : Ins) : Int := if wrB i.op then i.a else -1
/-- What Index answers here, and whether that is a place. -/
def IdxIs (s : ByteArray) (q : Int) : Prop := (([61] == s.toList) = true ∧ q = 0) ∨ (([61] == s.toList) = false ∧ q = firstIdx s 61)
theorem idx_row (op : Int) : ∃ q, IdxIs (rowB op) q ∧ ((wrB op = true ∧ decide (0 ≤ q) = true) ∨ (wrB op = false ∧ decide (0 ≤ q) = false)) := by
  by_cases h : 0 ≤ op ∧ op < 21
  · rcases op_cases h.1 h.2 with rfl | rfl | rfl | rfl | rfl | rfl | rfl | rfl | rfl | rfl | rfl | rfl | rfl | rfl | rfl | rfl | rfl | rfl | rfl | rfl | rfl
    all_goals first | exact ⟨_, .inl ⟨by decide +kernel, rfl⟩, .inl ⟨by decide +kernel, by decide +kernel⟩⟩ | exact ⟨_, .inr ⟨by decide +kernel, rfl⟩, .inl ⟨by decide +kernel, by decide +kernel⟩⟩ | exact ⟨_, .inr ⟨by decide +kernel, rfl⟩, .inr ⟨by decide +kernel, by decide +kernel⟩⟩
  · refine ⟨firstIdx (rowB op) 61, .inr ⟨?_, rfl⟩, .inr ⟨by unfold wrB; simp; omega, ?_⟩⟩
    all_goals
      unfold rowB
      rw [rowL_out h]
      decide +kernel
set_option maxRecDepth 100000 in
set_option maxHeartbeats 2000000 in
theorem r8_writes_any (op : Int) (w : World) :
    Calls Tryz.prog 53 #[.int .i64 op] w fun e w' => e = .returned (.bool (wrB op)) ∧ w = w' := by
  by_cases hA : 1 ≤ op ∧ op ≤ 8
  · rw [show wrB op = true by unfold wrB; simp; omega]
    obtain ⟨h1, h8⟩ := hA
    go_enter Tryz.func53, Tryz.ntmps53
    go_wp2_with fail
    go_ret
    exact ⟨rfl, rfl⟩
  · by_cases h13 : op = 13
    · subst h13
      rw [show wrB 13 = true from rfl]
      go_enter Tryz.func53, Tryz.ntmps53
      go_wp2_with fail
      go_ret
      exact ⟨rfl, rfl⟩
    · by_cases h15 : op = 15
      · subst h15
        rw [show wrB 15 = true from rfl]
        go_enter Tryz.func53, Tryz.ntmps53
        go_wp2_with fail
        go_ret
        exact ⟨rfl, rfl⟩
      · by_cases h16 : op = 16
        · subst h16
          rw [show wrB 16 = true from rfl]
          go_enter Tryz.func53, Tryz.ntmps53
          go_wp2_with fail
          go_ret
          exact ⟨rfl, rfl⟩
        · by_cases h20 : op = 20
          · subst h20
            rw [show wrB 20 = true from rfl]
            go_enter Tryz.func53, Tryz.ntmps53
            go_wp2_with fail
            go_ret
            exact ⟨rfl, rfl⟩
          · rw [show wrB op = false by unfold wrB; simp; omega]
            have e13 : (op == 13) = false := by simpa using h13
            have e15 : (op == 15) = false := by simpa using h15
            have e16 : (op == 16) = false := by simpa using h16
            have e20 : (op == 20) = false := by simpa using h20
            by_cases h1 : 1 ≤ op
            · have h8 : ¬ op ≤ 8 := by omega
              clear hA
              go_enter Tryz.func53, Tryz.ntmps53
              go_wp2_with fail
              go_ret
              exact ⟨rfl, rfl⟩
            · clear hA
              go_enter Tryz.func53, Tryz.ntmps53
              go_wp2_with fail
              go_ret
              exact ⟨rfl, rfl⟩
end Go.Proofs.YtajmkdbokdjmeaaGreat
/- ir: slices that hold ints; what a letter reads; what an instruction reads. -/
namespace Go.Proofs.YtajmkdbokdjmeaaGreat
open Go.RowKit
def intsV (l : List Int) : List Value := l.map fun x => Value.int .i64 x
/-- The slice (A, n, c) holds the ints l. -/
def IntsAt (w : World) (A : Option Addr) (n c : Nat) (l : List Int) : Prop :=
  n = l.length ∧ ((A = none ∧ n = 0 ∧ c = 0) ∨ ∃ ad, A = some ad ∧ ∀ j x, l[j]? = some x → w.cell? (ad.add j) = some (.int .i64 x))
/-- w' has w's cells. -/
def CellsK (w w' : World) : Prop := w.heap.size ≤ w'.heap.size ∧ ∀ (p : Addr) u, w.cell? p = some u → w'.cell? p = some u
theorem CellsK.refl (w : World) : CellsK w w := ⟨Nat.le_refl _, fun _ _ h => h⟩
theorem CellsK.trans {a b c : World} (h : CellsK a b) (k : CellsK b c) : CellsK a c := ⟨Nat.le_trans h.1 k.1, fun p u hu => k.2 p u (h.2 p u hu)⟩
theorem CellsK.of {w w' : World} (g : w.grownBy w' none) : CellsK w w' :=
  ⟨g.size, fun p u hu => (World.cell?_of_block (g.block p.block (World.block_lt_of_cell? w p hu) (by simp))).trans hu⟩
theorem CellsK.alloc (w : World) (o : Obj) : CellsK w (w.alloc o) := CellsK.of (gr_alloc (grownBy_refl _ _) o)
theorem CellsK.drew (w : World) : CellsK w w.drew := ⟨Nat.le_refl _, fun _ _ h => h⟩
/-- Only block b has turned, and that held no cells. -/
theorem CellsK.of_row {w w' : World} {b : Nat} {s : ByteArray} {pos : Nat} (hb : w.heap[b]? = some (.stringIter s pos)) (g : w.grownBy w' (some b)) : CellsK w w' :=
  ⟨g.size, fun p u hu => (World.cell?_of_block (g.block p.block (World.block_lt_of_cell? w p hu) (fun e => by
    have e' : b = p.block := (Option.some.inj e).symm
    subst e'
    simp [World.cell?, hb] at hu))).trans hu⟩
theorem IntsAt.keep {w w' : World} {A : Option Addr} {n c : Nat} {l : List Int} (h : IntsAt w A n c l) (k : CellsK w w') : IntsAt w' A n c l :=
  ⟨h.1, h.2.imp id fun ⟨ad, e, hc⟩ => ⟨ad, e, fun j x hx => k.2 _ _ (hc j x hx)⟩⟩
theorem IntsAt.nil (w : World) : IntsAt w none 0 0 [] := ⟨rfl, .inl ⟨rfl, rfl, rfl⟩⟩
theorem add_none (b o j : Nat) : (⟨b, o, none⟩ : Addr).add j = ⟨b, o + j, none⟩ := by
  unfold Addr.add; split
  · rename_i h; subst h; rfl
  · rfl
theorem IntsAt.new (w : World) (l : List Int) (t : TypeId) (b c : Nat) (cs : Array Value) (hcs : cs.toList = intsV l) (hb : b = w.heap.size) : IntsAt (w.alloc (.cells cs t)) (some ⟨b, 0, none⟩) l.length c l := by
  subst hb
  refine ⟨rfl, .inr ⟨_, rfl, fun j x hx => ?_⟩⟩
  rw [add_none, Nat.zero_add, cell_of_row _ _ _ _ _ _ (heap_alloc_new w _), ← Array.getElem?_toList, hcs]
  simp [intsV, hx]
/-- What a call tells that returns the ints l. -/
def RetInts (w : World) (l : List Int) (e : Ending) (w' : World) : Prop :=
  ∃ A n c, e = .returned (.slice A n c) ∧ IntsAt w' A n c l ∧ w.grownBy w' none
theorem RetInts.mk {w w' : World} {l : List Int} {A : Option Addr} {n c : Nat} (h : IntsAt w' A n c l) (g : w.grownBy w' none) : RetInts w l (.returned (.slice A n c)) w' := ⟨A, n, c, rfl, h, g⟩
/-- What a letter reads. -/
def readL (i : Ins) (c : Int) : List Int :=
  if c = 97 then [i.a] else if c = 98 then [i.b] else if c = 99 then [i.c] else if c = 108 then i.args else if c = 114 ∧ i.a ≠ -1 then [i.a] else []
def readsS (i : Ins) (l : List UInt8) : List Int := l.flatMap fun c => readL i (c.toNat : Int)
def readsI (i : Ins) : List Int := readsS i (rowL i.op)
end Go.Proofs.YtajmkdbokdjmeaaGreat
/- ir: Reads: a row's letters, one by one. -/
namespace Go.Proofs.YtajmkdbokdjmeaaGreat
open Go.RowKit
theorem next_at (w : World) (b : Nat) (s : ByteArray) (pos : Nat) (ty : TypeId) (hb : w.heap[b]? = some (.stringIter s pos)) (h : pos < s.size) (ha : (s[pos]'h).toNat < 128) :
    (Instr.next (.pointer (some ⟨b, 0, none⟩)) true ty).run Tryz.prog w = .ok (.tuple #[.bool true, .int .i64 pos, .int .i32 (s[pos]'h).toNat]) (w.putObj b (.stringIter s (pos + 1))) := by
  simp only [Instr.next, getObj, setObj, Sem.run_bind, Sem.run, hb, Result.andThen, h, if_true, decode_ascii s pos h ha]
  simp [goInt, World.putObj]
theorem next_end (w : World) (b : Nat) (s : ByteArray) (pos : Nat) (ty : TypeId) (hb : w.heap[b]? = some (.stringIter s pos)) (h : ¬ pos < s.size) :
    (Instr.next (.pointer (some ⟨b, 0, none⟩)) true ty).run Tryz.prog w = .ok (.tuple #[.bool false]) w := by
  simp [Instr.next, getObj, Sem.run, hb, h]
theorem gr_put {a b : World} {r : Option Nat} (h : a.grownBy b r) {k : Nat} (hk : a.heap.size ≤ k) (o : Obj) : a.grownBy (b.putObj k o) r :=
  ⟨h.os, h.tape, h.output, by simpa [World.putObj] using h.size, fun i hi hn => (World.putObj_heap_other (by omega)).trans (h.block i hi hn)⟩
theorem own_keep {w w' : World} {base : Nat} {e : TypeId} {size n : Nat} {v : Value} {xs : List Value} (h : w.ownsRow base e size v n xs) (hk : ∀ g, base ≤ g → g < w.heap.size → w'.heap[g]? = w.heap[g]?) : w'.ownsRow base e size v n xs := by
  refine ⟨h.1, h.2.imp id ?_⟩
  rintro ⟨g, cap, cur, hv, hg, hh, r⟩
  exact ⟨g, cap, cur, hv, hg, (hk g hg (lt_of_heap hh)).trans hh, r⟩
theorem own_gr {w w' : World} {base : Nat} {e : TypeId} {size n : Nat} {v : Value} {xs : List Value} (h : w.ownsRow base e size v n xs) (g : w.grownBy w' none) : w'.ownsRow base e size v n xs :=
  own_keep h fun k _ hk => g.block k hk (by simp)
theorem IntsAt.of_own {w : World} {base : Nat} {e : TypeId} {v : Value} {l : List Int} (h : w.ownsRow base e 1 v l.length (intsV l)) : ∃ A n c, v = .slice A n c ∧ IntsAt w A n c l := by
  rcases h.2 with ⟨rfl, hn⟩ | ⟨g, cap, cur, rfl, hg, hh, hnc, hcap, hsz, hcur⟩
  · have : l = [] := List.eq_nil_of_length_eq_zero hn
    subst this
    exact ⟨none, 0, 0, rfl, IntsAt.nil w⟩
  · refine ⟨_, _, _, rfl, rfl, .inr ⟨_, rfl, fun j x hx => ?_⟩⟩
    have hj : j < l.length := (List.getElem?_eq_some_iff.1 hx).1
    rw [add_none, Nat.zero_add, cell_of_row _ _ _ _ _ _ hh, ← Array.getElem?_toList]
    have e1 : (cur.toList.take (l.length * 1))[j]? = cur.toList[j]? := by rw [List.getElem?_take]; simp; omega
    rw [← e1, hcur]
    simp [intsV, hx]
/-- A row's own block turns, no elder one. -/
theorem gr_own {w w1 w2 : World} {r : Option Nat} (h : w.grownBy w1 none) (g : w1.grownBy w2 r) (hr : ∀ k, r = some k → w.heap.size ≤ k) : w.grownBy w2 none :=
  ⟨g.os.trans h.os, g.tape.trans h.tape, g.output.trans h.output, Nat.le_trans h.size g.size, fun k hk _ => by
    rw [g.block k (Nat.lt_of_lt_of_le hk h.size) (fun e => by have := hr _ e.symm; omega)]
    exact h.block k hk (by simp)⟩
theorem own_at {w : World} {base : Nat} {e : TypeId} {size n : Nat} {v : Value} {xs : List Value} (h : w.ownsRow base e size v n xs) {k : Nat} (hk : v.ownBlock = some k) : base ≤ k ∧ k < w.heap.size := by
  rcases h.2 with ⟨rfl, _⟩ | ⟨g, cap, cur, rfl, hg, hh, _⟩
  · simp [Value.ownBlock] at hk
  · simp [Value.ownBlock] at hk; subst hk; exact ⟨hg, lt_of_heap hh⟩
theorem own_nil (w : World) (base : Nat) (e : TypeId) (size : Nat) : w.ownsRow base e size (.slice none 0 0) 0 [] := ⟨by simp, .inl ⟨rfl, rfl⟩⟩
/-- The instruction lies in a block of its own. -/
def BoxI (i : Ins) (b : Nat) (w : World) : Prop := w.heap[b]? = some (.cells (insC i) 36 (0, 0))
theorem BoxI.to {i : Ins} {b : Nat} {w w' : World} (h : BoxI i b w) (hk : w'.heap[b]? = w.heap[b]?) : BoxI i b w' := hk.trans h
theorem BoxI.gr {i : Ins} {b : Nat} {w w' : World} (h : BoxI i b w) (g : w.grownBy w' none) : BoxI i b w' := h.to (g.block b (lt_of_heap h) (by simp))
theorem BoxI.cells {i : Ins} {b : Nat} {w : World} (h : BoxI i b w) : w.cell? ⟨b, 0, none⟩ = some (.int .i64 i.op) ∧ w.cell? ⟨b, 1, none⟩ = some (.int .i64 i.a) ∧ w.cell? ⟨b, 2, none⟩ = some (.int .i64 i.b) ∧ w.cell? ⟨b, 3, none⟩ = some (.int .i64 i.c) ∧
    w.cell? ⟨b, 4, none⟩ = some (.int .i64 i.w) ∧ w.cell? ⟨b, 5, none⟩ = some (.int .i64 i.n) ∧ w.cell? ⟨b, 6, none⟩ = some (.string i.sign) ∧ w.cell? ⟨b, 7, none⟩ = some (.slice i.aa i.an i.ac) := by
  have hc := fun j => cell_of_row w b j _ _ _ h
  exact ⟨by rw [hc]; rfl, by rw [hc]; rfl, by rw [hc]; rfl, by rw [hc]; rfl, by rw [hc]; rfl, by rw [hc]; rfl, by rw [hc]; rfl, by rw [hc]; rfl⟩
theorem readsS_take (i : Ins) (s : ByteArray) (pos : Nat) (h : pos < s.size) : readsS i (s.data.toList.take (pos + 1)) = readsS i (s.data.toList.take pos) ++ readL i ((s[pos]'h).toNat : Int) := by
  have hl : pos < s.data.toList.length := by simpa using h
  rw [List.take_succ_eq_append_getElem hl]
  unfold readsS
  rw [List.flatMap_append, List.flatMap_singleton]
  rfl
theorem readsS_len (i : Ins) (l : List UInt8) (k : Nat) : (readsS i (l.take k)).length ≤ (readsS i l).length := by
  unfold readsS
  have := List.take_append_drop k l
  calc ((l.take k).flatMap _).length ≤ ((l.take k).flatMap (fun c => readL i (c.toNat : Int)) ++ (l.drop k).flatMap (fun c => readL i (c.toNat : Int))).length := by rw [List.length_append]; omega
    _ = _ := by rw [← List.flatMap_append, this]
theorem intsV_append (a b : List Int) : intsV (a ++ b) = intsV a ++ intsV b := by simp [intsV]
theorem intsV_length (a : List Int) : (intsV a).length = a.length := by simp [intsV]
theorem intsV_one (l : List Int) : ∀ u ∈ intsV l, u.oneCell' = true := by
  intro u hu
  obtain ⟨x, _, rfl⟩ := List.mem_map.1 hu
  rfl
/-- What stands ahead of a round of Reads. -/
def RdRel (i : Ins) (s : ByteArray) (w : World) (v : Value) (wr : World) : Prop :=
  ∃ pos, pos ≤ s.size ∧ wr.heap[w.heap.size + 1]? = some (.stringIter s pos) ∧ wr.ownsRow (w.heap.size + 2) 3 1 v (readsS i (s.data.toList.take pos)).length (intsV (readsS i (s.data.toList.take pos))) ∧ w.grownBy wr none ∧ BoxI i w.heap.size wr

end Go.Proofs.YtajmkdbokdjmeaaGreat
/- ir: Reads, walked. -/
namespace Go.Proofs.YtajmkdbokdjmeaaGreat
open Go.RowKit
theorem info3 : (Tryz.prog.info? 3).map (fun i => (i.zero, i.size, i.bytes)) = some (some (.int .i64 0), 1, 8) := by kernel_rfl
theorem info_parts {o : Option TypeInfo} {z : Option Value} {s b : Nat} (h : o.map (fun i => (i.zero, i.size, i.bytes)) = some (z, s, b)) : ∃ i, o = some i ∧ i.zero = z ∧ i.size = s ∧ i.bytes = b := by
  cases o with
  | none => cases h
  | some i => simp only [Option.map_some, Option.some.injEq, Prod.mk.injEq] at h; exact ⟨i, rfl, h.1, h.2.1, h.2.2⟩
theorem iterPos_of {w : World} {k : Nat} {s : ByteArray} {p : Nat} (h : w.heap[k]? = some (.stringIter s p)) : w.iterPos k = p := by simp [World.iterPos, h]
def ascii (s : ByteArray) : Prop := ∀ (k : Nat) (h : k < s.size), (s[k]'h).toNat < 128
theorem ascii_row (op : Int) : ascii (rowB op) := by
  by_cases h : 0 ≤ op ∧ op < 21
  · rcases op_cases h.1 h.2 with rfl | rfl | rfl | rfl | rfl | rfl | rfl | rfl | rfl | rfl | rfl | rfl | rfl | rfl | rfl | rfl | rfl | rfl | rfl | rfl | rfl
    all_goals (unfold ascii; decide +kernel)
  · unfold rowB
    rw [rowL_out h]
    intro k h
    exact absurd h (by simp [ByteArray.size])
end Go.Proofs.YtajmkdbokdjmeaaGreat
/- ir: what an instruction reads, in the document's words. -/
namespace Go.Proofs.YtajmkdbokdjmeaaGreat
open Go.RowKit
/-- What a call tells that returns the ints l, in a row of its own. -/
def RetOwn (w : World) (l : List Int) (e : Ending) (w' : World) : Prop :=
  ∃ v, e = .returned v ∧ w'.ownsRow w.heap.size 3 1 v l.length (intsV l) ∧ w.grownBy w' none
theorem RetOwn.mk {w w' : World} {l : List Int} {v : Value} (h : w'.ownsRow w.heap.size 3 1 v l.length (intsV l)) (g : w.grownBy w' none) : RetOwn w l (.returned v) w' := ⟨v, rfl, h, g⟩
theorem RetOwn.nil {w w' : World} (g : w.grownBy w' none) : RetOwn w [] (.returned (.slice none 0 0)) w' := ⟨_, rfl, own_nil _ _ _ _, g⟩
theorem RetOwn.new {w : World} (W : World) (l : List Int) (b : Nat) (cs : Array Value) (hcs : cs.toList = intsV l) (hb : b = W.heap.size) (hw : w.heap.size ≤ W.heap.size) (hl : l.length ≤ maxLen) (g : w.grownBy (W.alloc (.cells cs 3)) none) :
    RetOwn w l (.returned (.slice (some ⟨b, 0, none⟩) l.length l.length)) (W.alloc (.cells cs 3)) := by
  have hsz : cs.size = l.length := by rw [← Array.length_toList, hcs, intsV_length]
  refine ⟨_, rfl, ⟨by rw [intsV_length, Nat.mul_one], .inr ⟨b, l.length, cs, rfl, by omega, by rw [hb]; exact heap_alloc_new W _, Nat.le_refl _, hl, by omega, ?_⟩⟩, g⟩
  rw [hcs, List.take_of_length_le (by rw [intsV_length]; omega)]
theorem RetOwn.ints {w w' : World} {l : List Int} {e : Ending} (h : RetOwn w l e w') : RetInts w l e w' := by
  obtain ⟨v, rfl, ho, g⟩ := h
  obtain ⟨A, n, c, rfl, hI⟩ := IntsAt.of_own ho
  exact ⟨A, n, c, rfl, hI, g⟩
/-- The table, by op. -/
def tabR (i : Ins) : List Int :=
  if i.op = 3 ∨ i.op = 6 ∨ i.op = 7 ∨ i.op = 8 ∨ i.op = 13 then [i.b] else if i.op = 4 ∨ i.op = 5 then [i.b, i.c] else if i.op = 9 ∨ i.op = 10 then [i.a, i.b]
  else if i.op = 11 ∨ i.op = 12 then [i.a, i.b, i.c] else if i.op = 14 ∨ i.op = 18 then [i.a] else if i.op = 15 then i.args else if i.op = 16 then i.b :: i.args
  else if i.op = 19 ∧ i.a ≠ -1 then [i.a] else []
theorem readsI_tab (i : Ins) : readsI i = tabR i := by
  obtain ⟨op, a, b, c, ww, n, sign, aa, an, ac, args⟩ := i
  by_cases h : 0 ≤ op ∧ op < 21
  · rcases op_cases h.1 h.2 with rfl | rfl | rfl | rfl | rfl | rfl | rfl | rfl | rfl | rfl | rfl | rfl | rfl | rfl | rfl | rfl | rfl | rfl | rfl | rfl | rfl
    all_goals simp [readsI, readsS, rowL, rowsT, readL, tabR]
  · unfold readsI tabR
    simp only []
    rw [rowL_out h]
    repeat rw [if_neg (by omega)]
    rfl
set_option maxRecDepth 100000 in
set_option maxHeartbeats 2000000 in
theorem r8R_3 (a b c ww n : Int) (sign : ByteArray) (aa : Option Addr) (an ac : Nat) (args : List Int) (w : World)  :
    Calls Tryz.prog 52 #[insV ⟨3, a, b, c, ww, n, sign, aa, an, ac, args⟩] w fun e w' => RetOwn w [b] e w' := by
  unfold insV insC
  go_enter Tryz.func52, Tryz.ntmps52
  go_wp2_with fail
  go_ret
  exact RetOwn.new _ [b] _ _ rfl (by simp) (by simp) (by simp [maxLen]) (by repeat (first | with_reducible exact grownBy_refl _ _ | with_reducible assumption | with_reducible refine World.grownBy.gr_drew ?_ | with_reducible refine World.grownBy.gr_set ?_ (by simp) _ | with_reducible refine gr_alloc ?_ _))
set_option maxRecDepth 100000 in
set_option maxHeartbeats 2000000 in
theorem r8R_4 (a b c ww n : Int) (sign : ByteArray) (aa : Option Addr) (an ac : Nat) (args : List Int) (w : World)  :
    Calls Tryz.prog 52 #[insV ⟨4, a, b, c, ww, n, sign, aa, an, ac, args⟩] w fun e w' => RetOwn w [b, c] e w' := by
  unfold insV insC
  go_enter Tryz.func52, Tryz.ntmps52
  go_wp2_with fail
  go_ret
  exact RetOwn.new _ [b, c] _ _ rfl (by simp) (by simp) (by simp [maxLen]) (by repeat (first | with_reducible exact grownBy_refl _ _ | with_reducible assumption | with_reducible refine World.grownBy.gr_drew ?_ | with_reducible refine World.grownBy.gr_set ?_ (by simp) _ | with_reducible refine gr_alloc ?_ _))
set_option maxRecDepth 100000 in
set_option maxHeartbeats 2000000 in
theorem r8R_5 (a b c ww n : Int) (sign : ByteArray) (aa : Option Addr) (an ac : Nat) (args : List Int) (w : World)  :
    Calls Tryz.prog 52 #[insV ⟨5, a, b, c, ww, n, sign, aa, an, ac, args⟩] w fun e w' => RetOwn w [b, c] e w' := by
  unfold insV insC
  go_enter Tryz.func52, Tryz.ntmps52
  go_wp2_with fail
  go_ret
  exact RetOwn.new _ [b, c] _ _ rfl (by simp) (by simp) (by simp [maxLen]) (by repeat (first | with_reducible exact grownBy_refl _ _ | with_reducible assumption | with_reducible refine World.grownBy.gr_drew ?_ | with_reducible refine World.grownBy.gr_set ?_ (by simp) _ | with_reducible refine gr_alloc ?_ _))
set_option maxRecDepth 100000 in
set_option maxHeartbeats 2000000 in
theorem r8R_6 (a b c ww n : Int) (sign : ByteArray) (aa : Option Addr) (an ac : Nat) (args : List Int) (w : World)  :
    Calls Tryz.prog 52 #[insV ⟨6, a, b, c, ww, n, sign, aa, an, ac, args⟩] w fun e w' => RetOwn w [b] e w' := by
  unfold insV insC
  go_enter Tryz.func52, Tryz.ntmps52
  go_wp2_with fail
  go_ret
  exact RetOwn.new _ [b] _ _ rfl (by simp) (by simp) (by simp [maxLen]) (by repeat (first | with_reducible exact grownBy_refl _ _ | with_reducible assumption | with_reducible refine World.grownBy.gr_drew ?_ | with_reducible refine World.grownBy.gr_set ?_ (by simp) _ | with_reducible refine gr_alloc ?_ _))
set_option maxRecDepth 100000 in
set_option maxHeartbeats 2000000 in
theorem r8R_7 (a b c ww n : Int) (sign : ByteArray) (aa : Option Addr) (an ac : Nat) (args : List Int) (w : World)  :
    Calls Tryz.prog 52 #[insV ⟨7, a, b, c, ww, n, sign, aa, an, ac, args⟩] w fun e w' => RetOwn w [b] e w' := by
  unfold insV insC
  go_enter Tryz.func52, Tryz.ntmps52
  go_wp2_with fail
  go_ret
  exact RetOwn.new _ [b] _ _ rfl (by simp) (by simp) (by simp [maxLen]) (by repeat (first | with_reducible exact grownBy_refl _ _ | with_reducible assumption | with_reducible refine World.grownBy.gr_drew ?_ | with_reducible refine World.grownBy.gr_set ?_ (by simp) _ | with_reducible refine gr_alloc ?_ _))
set_option maxRecDepth 100000 in
set_option maxHeartbeats 2000000 in
theorem r8R_8 (a b c ww n : Int) (sign : ByteArray) (aa : Option Addr) (an ac : Nat) (args : List Int) (w : World)  :
    Calls Tryz.prog 52 #[insV ⟨8, a, b, c, ww, n, sign, aa, an, ac, args⟩] w fun e w' => RetOwn w [b] e w' := by
  unfold insV insC
  go_enter Tryz.func52, Tryz.ntmps52
  go_wp2_with fail
  go_ret
  exact RetOwn.new _ [b] _ _ rfl (by simp) (by simp) (by simp [maxLen]) (by repeat (first | with_reducible exact grownBy_refl _ _ | with_reducible assumption | with_reducible refine World.grownBy.gr_drew ?_ | with_reducible refine World.grownBy.gr_set ?_ (by simp) _ | with_reducible refine gr_alloc ?_ _))
set_option maxRecDepth 100000 in
set_option maxHeartbeats 2000000 in
theorem r8R_9 (a b c ww n : Int) (sign : ByteArray) (aa : Option Addr) (an ac : Nat) (args : List Int) (w : World)  :
    Calls Tryz.prog 52 #[insV ⟨9, a, b, c, ww, n, sign, aa, an, ac, args⟩] w fun e w' => RetOwn w [a, b] e w' := by
  unfold insV insC
  go_enter Tryz.func52, Tryz.ntmps52
  go_wp2_with fail
  go_ret
  exact RetOwn.new _ [a, b] _ _ rfl (by simp) (by simp) (by simp [maxLen]) (by repeat (first | with_reducible exact grownBy_refl _ _ | with_reducible assumption | with_reducible refine World.grownBy.gr_drew ?_ | with_reducible refine World.grownBy.gr_set ?_ (by simp) _ | with_reducible refine gr_alloc ?_ _))
set_option maxRecDepth 100000 in
set_option maxHeartbeats 2000000 in
theorem r8R_10 (a b c ww n : Int) (sign : ByteArray) (aa : Option Addr) (an ac : Nat) (args : List Int) (w : World)  :
    Calls Tryz.prog 52 #[insV ⟨10, a, b, c, ww, n, sign, aa, an, ac, args⟩] w fun e w' => RetOwn w [a, b] e w' := by
  unfold insV insC
  go_enter Tryz.func52, Tryz.ntmps52
  go_wp2_with fail
  go_ret
  exact RetOwn.new _ [a, b] _ _ rfl (by simp) (by simp) (by simp [maxLen]) (by repeat (first | with_reducible exact grownBy_refl _ _ | with_reducible assumption | with_reducible refine World.grownBy.gr_drew ?_ | with_reducible refine World.grownBy.gr_set ?_ (by simp) _ | with_reducible refine gr_alloc ?_ _))
set_option maxRecDepth 100000 in
set_option maxHeartbeats 2000000 in
theorem r8R_11 (a b c ww n : Int) (sign : ByteArray) (aa : Option Addr) (an ac : Nat) (args : List Int) (w : World)  :
    Calls Tryz.prog 52 #[insV ⟨11, a, b, c, ww, n, sign, aa, an, ac, args⟩] w fun e w' => RetOwn w [a, b, c] e w' := by
  unfold insV insC
  go_enter Tryz.func52, Tryz.ntmps52
  go_wp2_with fail
  go_ret
  exact RetOwn.new _ [a, b, c] _ _ rfl (by simp) (by simp) (by simp [maxLen]) (by repeat (first | with_reducible exact grownBy_refl _ _ | with_reducible assumption | with_reducible refine World.grownBy.gr_drew ?_ | with_reducible refine World.grownBy.gr_set ?_ (by simp) _ | with_reducible refine gr_alloc ?_ _))
set_option maxRecDepth 100000 in
set_option maxHeartbeats 2000000 in
theorem r8R_12 (a b c ww n : Int) (sign : ByteArray) (aa : Option Addr) (an ac : Nat) (args : List Int) (w : World)  :
    Calls Tryz.prog 52 #[insV ⟨12, a, b, c, ww, n, sign, aa, an, ac, args⟩] w fun e w' => RetOwn w [a, b, c] e w' := by
  unfold insV insC
  go_enter Tryz.func52, Tryz.ntmps52
  go_wp2_with fail
  go_ret
  exact RetOwn.new _ [a, b, c] _ _ rfl (by simp) (by simp) (by simp [maxLen]) (by repeat (first | with_reducible exact grownBy_refl _ _ | with_reducible assumption | with_reducible refine World.grownBy.gr_drew ?_ | with_reducible refine World.grownBy.gr_set ?_ (by simp) _ | with_reducible refine gr_alloc ?_ _))
set_option maxRecDepth 100000 in
set_option maxHeartbeats 2000000 in
theorem r8R_13 (a b c ww n : Int) (sign : ByteArray) (aa : Option Addr) (an ac : Nat) (args : List Int) (w : World)  :
    Calls Tryz.prog 52 #[insV ⟨13, a, b, c, ww, n, sign, aa, an, ac, args⟩] w fun e w' => RetOwn w [b] e w' := by
  unfold insV insC
  go_enter Tryz.func52, Tryz.ntmps52
  go_wp2_with fail
  go_ret
  exact RetOwn.new _ [b] _ _ rfl (by simp) (by simp) (by simp [maxLen]) (by repeat (first | with_reducible exact grownBy_refl _ _ | with_reducible assumption | with_reducible refine World.grownBy.gr_drew ?_ | with_reducible refine World.grownBy.gr_set ?_ (by simp) _ | with_reducible refine gr_alloc ?_ _))
set_option maxRecDepth 100000 in
set_option maxHeartbeats 2000000 in
theorem r8R_14 (a b c ww n : Int) (sign : ByteArray) (aa : Option Addr) (an ac : Nat) (args : List Int) (w : World)  :
    Calls Tryz.prog 52 #[insV ⟨14, a, b, c, ww, n, sign, aa, an, ac, args⟩] w fun e w' => RetOwn w [a] e w' := by
  unfold insV insC
  go_enter Tryz.func52, Tryz.ntmps52
  go_wp2_with fail
  go_ret
  exact RetOwn.new _ [a] _ _ rfl (by simp) (by simp) (by simp [maxLen]) (by repeat (first | with_reducible exact grownBy_refl _ _ | with_reducible assumption | with_reducible refine World.grownBy.gr_drew ?_ | with_reducible refine World.grownBy.gr_set ?_ (by simp) _ | with_reducible refine gr_alloc ?_ _))
set_option maxRecDepth 100000 in
set_option maxHeartbeats 2000000 in
theorem r8R_18 (a b c ww n : Int) (sign : ByteArray) (aa : Option Addr) (an ac : Nat) (args : List Int) (w : World)  :
    Calls Tryz.prog 52 #[insV ⟨18, a, b, c, ww, n, sign, aa, an, ac, args⟩] w fun e w' => RetOwn w [a] e w' := by
  unfold insV insC
  go_enter Tryz.func52, Tryz.ntmps52
  go_wp2_with fail
  go_ret
  exact RetOwn.new _ [a] _ _ rfl (by simp) (by simp) (by simp [maxLen]) (by repeat (first | with_reducible exact grownBy_refl _ _ | with_reducible assumption | with_reducible refine World.grownBy.gr_drew ?_ | with_reducible refine World.grownBy.gr_set ?_ (by simp) _ | with_reducible refine gr_alloc ?_ _))
set_option maxRecDepth 100000 in
set_option maxHeartbeats 2000000 in
theorem r8R_19n (a b c ww n : Int) (sign : ByteArray) (aa : Option Addr) (an ac : Nat) (args : List Int) (w : World)  :
    Calls Tryz.prog 52 #[insV ⟨19, a, b, c, ww, n, sign, aa, an, ac, args⟩] w fun e w' => RetOwn w (if a = -1 then [] else [a]) e w' := by
  unfold insV insC
  by_cases ha : a = -1
  · rw [if_pos ha]
    subst ha
    go_enter Tryz.func52, Tryz.ntmps52
    go_wp2_with fail
    go_ret
    exact RetOwn.nil (by repeat (first | with_reducible exact grownBy_refl _ _ | with_reducible assumption | with_reducible refine World.grownBy.gr_drew ?_ | with_reducible refine World.grownBy.gr_set ?_ (by simp) _ | with_reducible refine gr_alloc ?_ _))
  · rw [if_neg ha]
    have e1 : (a == -1) = false := by simpa using ha
    have e2 : (a != -1) = true := by simpa using ha
    clear ha
    go_enter Tryz.func52, Tryz.ntmps52
    go_wp2_with fail
    go_ret
    exact RetOwn.new _ [a] _ _ rfl (by simp) (by simp) (by simp [maxLen]) (by repeat (first | with_reducible exact grownBy_refl _ _ | with_reducible assumption | with_reducible refine World.grownBy.gr_drew ?_ | with_reducible refine World.grownBy.gr_set ?_ (by simp) _ | with_reducible refine gr_alloc ?_ _))
set_option maxRecDepth 100000 in
set_option maxHeartbeats 2000000 in
theorem r8R_15 (a b c ww n : Int) (sign : ByteArray) (aa : Option Addr) (an ac : Nat) (args : List Int) (w : World)  (hA : IntsAt w aa an ac args) (hlen : (0 + args.length) * 8 ≤ 140737488355328) :
    Calls Tryz.prog 52 #[insV ⟨15, a, b, c, ww, n, sign, aa, an, ac, args⟩] w fun e w' => RetOwn w args e w' := by
  have HA := Lib.hid hA
  obtain ⟨hn, hA⟩ := hA
  subst hn
  unfold insV insC
  have HG0 := Lib.hid (show w.grownBy ((w.alloc (.cells (insC ⟨15, a, b, c, ww, n, sign, aa, args.length, ac, args⟩) 36)).alloc (.cells #[] 3)) none by repeat (first | with_reducible exact grownBy_refl _ _ | with_reducible assumption | with_reducible refine World.grownBy.gr_drew ?_ | with_reducible refine World.grownBy.gr_set ?_ (by simp) _ | with_reducible refine gr_alloc ?_ _))
  unfold insC at HG0
  obtain ⟨i0, hi, hz0, hz1, hz2⟩ := info_parts info3
  rcases hA with ⟨rfl, hn, rfl⟩ | ⟨ad, rfl, hcell⟩
  · have hl0 : args = [] := List.eq_nil_of_length_eq_zero hn
    clear hn HA
    subst hl0
    go_enter Tryz.func52, Tryz.ntmps52
    go_wp2_with (at_builtin; go_must (refine wpList_append_own_none rfl (.tmp 48) (.tmp 50) 28 rfl w.heap.size 3 i0 1 Tryz.underlying28 hi _ 0 [] rfl ⟨rfl, .inr ⟨w.heap.size + 1, 0, _, rfl, by omega, by simpa using heap_alloc_new (w.alloc _) (.cells #[] 3), Nat.le_refl _, by unfold maxLen; omega, rfl, rfl⟩⟩ rfl ?_))
    clear hi hz0 hz1 hz2
    go_wp2_with fail
    go_ret
    exact RetOwn.new _ [] _ _ rfl (by simp) (by simp) (by simp [maxLen]) HG0.out
  · go_enter Tryz.func52, Tryz.ntmps52
    go_wp2_with (at_builtin; go_must (refine wpList_append_own _ rfl (.tmp 48) (.tmp 50) 28 rfl w.heap.size 3 i0 _ 1 8 Tryz.underlying28 hi hz0 hz1 hz2 rfl (by decide) _ 0 [] rfl ⟨rfl, .inr ⟨w.heap.size + 1, 0, _, rfl, by omega, by simpa using heap_alloc_new (w.alloc _) (.cells #[] 3), Nat.le_refl _, by unfold maxLen; omega, rfl, rfl⟩⟩ ad args.length ac (intsV args) rfl ?_ ?_ ?_ ?_ ?_ ?_ ?_))
    · first | rfl | (simp [intsV_length])
    · intro j u hu
      simp only [intsV, List.getElem?_map, Option.map_eq_some_iff] at hu
      obtain ⟨x, hx, rfl⟩ := hu
      exact (CellsK.of HG0.out).2 _ _ (hcell j x hx)
    · exact intsV_one args
    · unfold maxLen; omega
    · omega
    · first | omega | (simp; omega)
    intro v' w4 hown' hgrow _
    have HO4 := Lib.hid (show w4.ownsRow w.heap.size 3 1 v' (args).length (intsV args) by simpa [intsV, Nat.add_comm] using hown')
    have HG4 := Lib.hid (gr_own HG0.out hgrow (fun k hk => by simp [Value.ownBlock] at hk; omega))
    clear hown' hgrow hi hz0 hz1 hz2 hcell HA
    go_wp2_with fail
    go_ret
    exact RetOwn.mk HO4.out HG4.out
set_option maxRecDepth 100000 in
set_option maxHeartbeats 2000000 in
theorem r8R_16 (a b c ww n : Int) (sign : ByteArray) (aa : Option Addr) (an ac : Nat) (args : List Int) (w : World)  (hA : IntsAt w aa an ac args) (hlen : (1 + args.length) * 8 ≤ 140737488355328) :
    Calls Tryz.prog 52 #[insV ⟨16, a, b, c, ww, n, sign, aa, an, ac, args⟩] w fun e w' => RetOwn w (b :: args) e w' := by
  have HA := Lib.hid hA
  obtain ⟨hn, hA⟩ := hA
  subst hn
  unfold insV insC
  have HG0 := Lib.hid (show w.grownBy ((w.alloc (.cells (insC ⟨16, a, b, c, ww, n, sign, aa, args.length, ac, args⟩) 36)).alloc (.cells #[.int .i64 b] 3)) none by repeat (first | with_reducible exact grownBy_refl _ _ | with_reducible assumption | with_reducible refine World.grownBy.gr_drew ?_ | with_reducible refine World.grownBy.gr_set ?_ (by simp) _ | with_reducible refine gr_alloc ?_ _))
  unfold insC at HG0
  obtain ⟨i0, hi, hz0, hz1, hz2⟩ := info_parts info3
  rcases hA with ⟨rfl, hn, rfl⟩ | ⟨ad, rfl, hcell⟩
  · have hl0 : args = [] := List.eq_nil_of_length_eq_zero hn
    clear hn HA
    subst hl0
    go_enter Tryz.func52, Tryz.ntmps52
    go_wp2_with (at_builtin; go_must (refine wpList_append_own_none rfl (.tmp 56) (.tmp 58) 28 rfl w.heap.size 3 i0 1 Tryz.underlying28 hi _ 1 [.int .i64 b] rfl ⟨rfl, .inr ⟨w.heap.size + 1, 1, _, rfl, by omega, by simpa using heap_alloc_new (w.alloc _) (.cells #[.int .i64 b] 3), Nat.le_refl _, by unfold maxLen; omega, rfl, rfl⟩⟩ rfl ?_))
    clear hi hz0 hz1 hz2
    go_wp2_with fail
    go_ret
    exact RetOwn.new _ [b] _ _ rfl (by simp) (by simp) (by simp [maxLen]) HG0.out
  · go_enter Tryz.func52, Tryz.ntmps52
    go_wp2_with (at_builtin; go_must (refine wpList_append_own _ rfl (.tmp 56) (.tmp 58) 28 rfl w.heap.size 3 i0 _ 1 8 Tryz.underlying28 hi hz0 hz1 hz2 rfl (by decide) _ 1 [.int .i64 b] rfl ⟨rfl, .inr ⟨w.heap.size + 1, 1, _, rfl, by omega, by simpa using heap_alloc_new (w.alloc _) (.cells #[.int .i64 b] 3), Nat.le_refl _, by unfold maxLen; omega, rfl, rfl⟩⟩ ad args.length ac (intsV args) rfl ?_ ?_ ?_ ?_ ?_ ?_ ?_))
    · first | rfl | (simp [intsV_length])
    · intro j u hu
      simp only [intsV, List.getElem?_map, Option.map_eq_some_iff] at hu
      obtain ⟨x, hx, rfl⟩ := hu
      exact (CellsK.of HG0.out).2 _ _ (hcell j x hx)
    · exact intsV_one args
    · unfold maxLen; omega
    · first | omega | (simp; omega)
    intro v' w4 hown' hgrow _
    have HO4 := Lib.hid (show w4.ownsRow w.heap.size 3 1 v' ((b :: args)).length (intsV (b :: args)) by simpa [intsV, Nat.add_comm] using hown')
    have HG4 := Lib.hid (gr_own HG0.out hgrow (fun k hk => by simp [Value.ownBlock] at hk; omega))
    clear hown' hgrow hi hz0 hz1 hz2 hcell HA
    go_wp2_with fail
    go_ret
    exact RetOwn.mk HO4.out HG4.out
set_option maxRecDepth 100000 in
set_option maxHeartbeats 2000000 in
theorem r8R_none (op a b c ww n : Int) (sign : ByteArray) (aa : Option Addr) (an ac : Nat) (args : List Int) (w : World) (h : op < 3 ∨ op = 17 ∨ 20 ≤ op) :
    Calls Tryz.prog 52 #[insV ⟨op, a, b, c, ww, n, sign, aa, an, ac, args⟩] w fun e w' => RetOwn w [] e w' := by
  have e3 : (op == 3) = false := by simp; omega
  have e4 : (op == 4) = false := by simp; omega
  have e5 : (op == 5) = false := by simp; omega
  have e6 : (op == 6) = false := by simp; omega
  have e7 : (op == 7) = false := by simp; omega
  have e8 : (op == 8) = false := by simp; omega
  have e9 : (op == 9) = false := by simp; omega
  have e10 : (op == 10) = false := by simp; omega
  have e11 : (op == 11) = false := by simp; omega
  have e12 : (op == 12) = false := by simp; omega
  have e13 : (op == 13) = false := by simp; omega
  have e14 : (op == 14) = false := by simp; omega
  have e15 : (op == 15) = false := by simp; omega
  have e16 : (op == 16) = false := by simp; omega
  have e18 : (op == 18) = false := by simp; omega
  have e19 : (op == 19) = false := by simp; omega
  unfold insV insC
  clear h
  go_enter Tryz.func52, Tryz.ntmps52
  go_wp2_with fail
  go_ret
  exact RetOwn.nil (by repeat (first | with_reducible exact grownBy_refl _ _ | with_reducible assumption | with_reducible refine World.grownBy.gr_drew ?_ | with_reducible refine World.grownBy.gr_set ?_ (by simp) _ | with_reducible refine gr_alloc ?_ _))
theorem r8_Reads_own (i : Ins) (w : World) (hA : IntsAt w i.aa i.an i.ac i.args) (hlen : (readsI i).length * 8 ≤ 140737488355328) :
    Calls Tryz.prog 52 #[insV i] w fun e w' => RetOwn w (readsI i) e w' := by
  rw [readsI_tab] at hlen ⊢
  obtain ⟨op, a, b, c, ww, n, sign, aa, an, ac, args⟩ := i
  by_cases h : op < 3 ∨ op = 17 ∨ 20 ≤ op
  · rw [show tabR ⟨op, a, b, c, ww, n, sign, aa, an, ac, args⟩ = [] by unfold tabR; simp only []; repeat rw [if_neg (by omega)]]
    exact r8R_none op a b c ww n sign aa an ac args w h
  · have hk : op = 3 ∨ op = 4 ∨ op = 5 ∨ op = 6 ∨ op = 7 ∨ op = 8 ∨ op = 9 ∨ op = 10 ∨ op = 11 ∨ op = 12 ∨ op = 13 ∨ op = 14 ∨ op = 15 ∨ op = 16 ∨ op = 18 ∨ op = 19 := by omega
    clear h
    rcases hk with rfl | rfl | rfl | rfl | rfl | rfl | rfl | rfl | rfl | rfl | rfl | rfl | rfl | rfl | rfl | rfl
    · exact r8R_3 a b c ww n sign aa an ac args w
    · exact r8R_4 a b c ww n sign aa an ac args w
    · exact r8R_5 a b c ww n sign aa an ac args w
    · exact r8R_6 a b c ww n sign aa an ac args w
    · exact r8R_7 a b c ww n sign aa an ac args w
    · exact r8R_8 a b c ww n sign aa an ac args w
    · exact r8R_9 a b c ww n sign aa an ac args w
    · exact r8R_10 a b c ww n sign aa an ac args w
    · exact r8R_11 a b c ww n sign aa an ac args w
    · exact r8R_12 a b c ww n sign aa an ac args w
    · exact r8R_13 a b c ww n sign aa an ac args w
    · exact r8R_14 a b c ww n sign aa an ac args w
    · exact r8R_15 a b c ww n sign aa an ac args w hA (by simp [tabR] at hlen; omega)
    · exact r8R_16 a b c ww n sign aa an ac args w hA (by simp [tabR] at hlen; omega)
    · exact r8R_18 a b c ww n sign aa an ac args w
    · rw [show tabR ⟨19, a, b, c, ww, n, sign, aa, an, ac, args⟩ = (if a = -1 then [] else [a]) by simp [tabR]]
      exact r8R_19n a b c ww n sign aa an ac args w
theorem r8_Reads_any (i : Ins) (w : World) (hA : IntsAt w i.aa i.an i.ac i.args) (hlen : (readsI i).length * 8 ≤ 140737488355328) :
    Calls Tryz.prog 52 #[insV i] w fun e w' => RetInts w (readsI i) e w' :=
  (r8_Reads_own i w hA hlen).mono fun _ _ h => h.ints

end Go.Proofs.YtajmkdbokdjmeaaGreat
/- ir: where an instruction leads; two lists of ints that are alike. -/
namespace Go.Proofs.YtajmkdbokdjmeaaGreat
open Go.RowKit
theorem gr_drewN {a b : World} {r : Option Nat} (h : a.grownBy b r) (n : Nat) : a.grownBy (b.drewN n) r := ⟨h.os, h.tape, h.output, h.size, h.block⟩
def nextI (i : Ins) (q : Int) : List Int := if i.op = 19 then [] else if i.op = 17 then [i.n] else if i.op = 18 ∧ i.n ≠ q then [q, i.n] else [q]
theorem IntsAt.at_ {w : World} {A : Option Addr} {n c : Nat} {l : List Int} (h : IntsAt w A n c l) {k : Nat} (hk : k < l.length) : ∃ ad, A = some ad ∧ w.cell? (ad.add k) = some (.int .i64 (l[k]'hk)) := by
  rcases h.2 with ⟨_, hn, _⟩ | ⟨ad, e, hc⟩
  · have := h.1; omega
  · exact ⟨ad, e, hc k _ (List.getElem?_eq_getElem hk)⟩
set_option maxRecDepth 100000 in
set_option maxHeartbeats 4000000 in
theorem Ints_same (A B : Option Addr) (n m c d : Nat) (l : List Int) (w : World) (hA : IntsAt w A n c l) (hB : IntsAt w B m d l) (hl : l.length ≤ maxLen) :
    Calls Tryz.prog 12 #[.slice A n c, .slice B m d] w fun e w' => e = .returned (.bool true) ∧ w.grownBy w' none := by
  unfold maxLen at hl
  have HA := Lib.hid hA
  have HB := Lib.hid hB
  obtain rfl : n = l.length := hA.1
  obtain rfl : l.length = m := hB.1.symm
  clear hA hB
  go_enter Tryz.func12, Tryz.ntmps12
  go_wp2_with fail
  go_loopw [5] (fun i wr => ∃ k : Nat, k ≤ l.length ∧ i = .int .i64 k ∧ w.grownBy wr none) (fun i _ => l.length - (intOf i).toNat)
  case atStart => exact ⟨0, Nat.zero_le _, rfl, grownBy_refl _ _⟩
  case round =>
    obtain ⟨k, hk, rfl, hg⟩ := hrel
    have HG := Lib.hid hg
    clear hg
    by_cases hlt : k < l.length
    · obtain ⟨ad, rfl, hc1⟩ := (HA.out.keep (CellsK.of HG.out)).at_ hlt
      obtain ⟨bd, rfl, hc2⟩ := (HB.out.keep (CellsK.of HG.out)).at_ hlt
      generalize l[k] = x at hc1 hc2
      go_wp2_with fail
      go_quiet (fail)
      go_wp2_with fail
      go_roundw
      case rel => exact ⟨k + 1, by omega, by go_num, gr_drewN HG.out _⟩
      case measure => simp [intOf]; omega
    · go_wp2_with fail
      go_ret
      exact ⟨rfl, HG.out⟩
set_option maxRecDepth 100000 in
set_option maxHeartbeats 4000000 in
theorem r8_Next_any (i : Ins) (pc q : Int) (hq : IntKind.i64.wrap (pc + 1) = q) (w : World) :
    Calls Tryz.prog 55 #[insV i, .int .i64 pc] w fun e w' => RetInts w (nextI i q) e w' := by
  obtain ⟨op, a, b, c, ww, n, sign, aa, an, ac, args⟩ := i
  unfold nextI insV insC
  simp only []
  by_cases h19 : op = 19
  · subst h19
    rw [if_pos rfl]
    go_enter Tryz.func55, Tryz.ntmps55
    go_wp2_with fail
    go_ret
    exact RetInts.mk (IntsAt.nil _) (by repeat (first | with_reducible exact grownBy_refl _ _ | with_reducible assumption | with_reducible refine World.grownBy.gr_drew ?_ | with_reducible refine World.grownBy.gr_set ?_ (by simp) _ | with_reducible refine gr_alloc ?_ _))
  rw [if_neg h19]
  by_cases h17 : op = 17
  · subst h17
    rw [if_pos rfl]
    go_enter Tryz.func55, Tryz.ntmps55
    go_wp2_with fail
    go_ret
    exact RetInts.mk (IntsAt.new _ [n] _ _ _ _ rfl (by simp)) (by repeat (first | with_reducible exact grownBy_refl _ _ | with_reducible assumption | with_reducible refine World.grownBy.gr_drew ?_ | with_reducible refine World.grownBy.gr_set ?_ (by simp) _ | with_reducible refine gr_alloc ?_ _))
  rw [if_neg h17]
  have e19 : (op == 19) = false := by simpa using h19
  have e17 : (op == 17) = false := by simpa using h17
  by_cases h18 : op = 18
  · subst h18
    by_cases hn : n = q
    · rw [if_neg (by simp [hn])]
      subst hn
      clear h19 h17 e19 e17
      go_enter Tryz.func55, Tryz.ntmps55
      go_wp2_with fail
      go_ret
      exact RetInts.mk (IntsAt.new _ [_] _ _ _ _ rfl (by simp)) (by repeat (first | with_reducible exact grownBy_refl _ _ | with_reducible assumption | with_reducible refine World.grownBy.gr_drew ?_ | with_reducible refine World.grownBy.gr_set ?_ (by simp) _ | with_reducible refine gr_alloc ?_ _))
    · rw [if_pos ⟨rfl, hn⟩]
      have e1 : (n == q) = false := by simpa using hn
      have e2 : (n != q) = true := by simpa using hn
      clear h19 h17 e19 e17 hn
      go_enter Tryz.func55, Tryz.ntmps55
      go_wp2_with fail
      go_ret
      exact RetInts.mk (IntsAt.new _ [q, n] _ _ _ _ rfl (by simp)) (by repeat (first | with_reducible exact grownBy_refl _ _ | with_reducible assumption | with_reducible refine World.grownBy.gr_drew ?_ | with_reducible refine World.grownBy.gr_set ?_ (by simp) _ | with_reducible refine gr_alloc ?_ _))
  · rw [if_neg (fun h => h18 h.1)]
    have e18 : (op == 18) = false := by simpa using h18
    clear h19 h17 h18
    go_enter Tryz.func55, Tryz.ntmps55
    go_wp2_with fail
    go_ret
    exact RetInts.mk (IntsAt.new _ [q] _ _ _ _ rfl (by simp)) (by repeat (first | with_reducible exact grownBy_refl _ _ | with_reducible assumption | with_reducible refine World.grownBy.gr_drew ?_ | with_reducible refine World.grownBy.gr_set ?_ (by simp) _ | with_reducible refine gr_alloc ?_ _))
def insS : Ins := ⟨9, 3, 4, 0, 8, 0, ⟨#[]⟩, none, 0, 0, []⟩
def insJ : Ins := ⟨18, 0, 0, 0, 0, 7, ⟨#[]⟩, none, 0, 0, []⟩
end Go.Proofs.YtajmkdbokdjmeaaGreat
/- ir: programs in memory; the kind of a site. -/
namespace Go.Proofs.YtajmkdbokdjmeaaGreat
open Go.RowKit
structure Sit where
  kind : Int
  size : Int
  func : Int
  name : ByteArray
  tk : Int
  tn : Int
  tname : ByteArray
  toa : Option Addr
  ton : Nat
  toc : Nat
def sitC (s : Sit) : Array Value := #[.int .i64 s.kind, .int .i64 s.size, .int .i64 s.func, .string s.name, .int .i64 s.tk, .int .i64 s.tn, .string s.tname, .slice s.toa s.ton s.toc]
structure Fun' where
  name : ByteArray
  regs : Int
  params : Int
  la : Option Addr
  lc : Nat
  locals : List Int
  ca : Option Addr
  cc : Nat
  code : List Ins
def funC (f : Fun') : Array Value := #[.string f.name, .int .i64 f.regs, .int .i64 f.params, .slice f.la f.locals.length f.lc, .slice f.ca f.code.length f.cc]
def funV (f : Fun') : Value := .agg (funC f)
structure Prg where
  sa : Option Addr
  sc : Nat
  sites : List Sit
  fa : Option Addr
  fc : Nat
  fns : List Fun'
  main : Int
def prgC (p : Prg) : Array Value := #[.slice p.sa p.sites.length p.sc, .slice p.fa p.fns.length p.fc, .int .i64 p.main]
def prgV (p : Prg) : Value := .agg (prgC p)
/-- Structs of m cells each, one behind the other. -/
def StrAt {α : Type} (C : α → Array Value) (m : Nat) (w : World) (A : Option Addr) (l : List α) : Prop :=
  l = [] ∨ ∃ ad, A = some ad ∧ ∀ j x, l[j]? = some x → ∀ k u, (C x)[k]? = some u → w.cell? (ad.add (j * m + k)) = some u
theorem StrAt.keep {α : Type} {C : α → Array Value} {m : Nat} {w w' : World} {A : Option Addr} {l : List α} (h : StrAt C m w A l) (k : CellsK w w') : StrAt C m w' A l :=
  h.imp id fun ⟨ad, e, hc⟩ => ⟨ad, e, fun j x hx i u hu => k.2 _ _ (hc j x hx i u hu)⟩
theorem add_pos (a : Addr) (i j : Nat) (hj : 0 < j) : a.add (i + j) = ⟨(a.add i).block, (a.add i).off + j, none⟩ := by
  unfold Addr.add
  have h1 : ¬ i + j = 0 := by omega
  by_cases hi : i = 0
  · subst hi; simp; omega
  · simp [hi]; omega
theorem StrAt.at_ {α : Type} {C : α → Array Value} {m : Nat} {w : World} {A : Option Addr} {l : List α} (h : StrAt C m w A l) {j : Nat} (hj : j < l.length) :
    ∃ ad, A = some ad ∧ (∀ u, (C l[j])[0]? = some u → w.cell? (ad.add (j * m)) = some u) ∧ ∀ k u, (C l[j])[k + 1]? = some u → w.cell? ⟨(ad.add (j * m)).block, (ad.add (j * m)).off + (k + 1), none⟩ = some u := by
  rcases h with rfl | ⟨ad, e, hc⟩
  · exact absurd hj (by simp)
  · exact ⟨ad, e, fun u hu => hc j _ (List.getElem?_eq_getElem hj) 0 u hu, fun k u hu => by rw [← add_pos _ _ _ (by omega)]; exact hc j _ (List.getElem?_eq_getElem hj) (k + 1) u hu⟩
/-- What an instruction's list of arguments asks. -/
def InsOk (w : World) (i : Ins) : Prop := IntsAt w i.aa i.an i.ac i.args ∧ i.args.length * 8 ≤ 140737488351232
def FunOk (w : World) (f : Fun') : Prop := IntsAt w f.la f.locals.length f.lc f.locals ∧ f.locals.length ≤ maxLen ∧ f.code.length ≤ maxLen ∧ StrAt insC 8 w f.ca f.code ∧ ∀ i ∈ f.code, InsOk w i
def PrgOk (w : World) (p : Prg) : Prop := p.sites.length ≤ maxLen ∧ p.fns.length ≤ maxLen ∧ StrAt sitC 8 w p.sa p.sites ∧ StrAt funC 5 w p.fa p.fns ∧ ∀ f ∈ p.fns, FunOk w f
theorem InsOk.keep {w w' : World} {i : Ins} (h : InsOk w i) (k : CellsK w w') : InsOk w' i := ⟨h.1.keep k, h.2⟩
theorem FunOk.keep {w w' : World} {f : Fun'} (h : FunOk w f) (k : CellsK w w') : FunOk w' f := ⟨h.1.keep k, h.2.1, h.2.2.1, h.2.2.2.1.keep k, fun i hi => (h.2.2.2.2 i hi).keep k⟩
theorem PrgOk.keep {w w' : World} {p : Prg} (h : PrgOk w p) (k : CellsK w w') : PrgOk w' p := ⟨h.1, h.2.1, h.2.2.1.keep k, h.2.2.2.1.keep k, fun f hf => (h.2.2.2.2 f hf).keep k⟩
/-- A block that holds just these cells. -/
def BoxC (C : Array Value) (t : TypeId) (b : Nat) (w : World) : Prop := w.heap[b]? = some (.cells C t (0, 0))
theorem BoxC.gr {C : Array Value} {t b : Nat} {w w' : World} (h : BoxC C t b w) (g : w.grownBy w' none) : BoxC C t b w' := (g.block b (lt_of_heap h) (by simp)).trans h
theorem BoxC.new (w : World) (C : Array Value) (t : TypeId) : BoxC C t w.heap.size (w.alloc (.cells C t)) := heap_alloc_new w _
theorem BoxC.cell {C : Array Value} {t b : Nat} {w : World} (h : BoxC C t b w) {k : Nat} {u : Value} (hu : C[k]? = some u) : w.cell? ⟨b, k, none⟩ = some u := by rw [cell_of_row w b k _ _ _ h]; exact hu
theorem boxP {p : Prg} {b : Nat} {w : World} (h : BoxC (prgC p) 25 b w) : w.cell? ⟨b, 0, none⟩ = some (.slice p.sa p.sites.length p.sc) ∧ w.cell? ⟨b, 1, none⟩ = some (.slice p.fa p.fns.length p.fc) ∧ w.cell? ⟨b, 2, none⟩ = some (.int .i64 p.main) :=
  ⟨h.cell rfl, h.cell rfl, h.cell rfl⟩
theorem boxF {f : Fun'} {b : Nat} {w : World} (h : BoxC (funC f) 39 b w) : w.cell? ⟨b, 0, none⟩ = some (.string f.name) ∧ w.cell? ⟨b, 1, none⟩ = some (.int .i64 f.regs) ∧ w.cell? ⟨b, 2, none⟩ = some (.int .i64 f.params) ∧ w.cell? ⟨b, 3, none⟩ = some (.slice f.la f.locals.length f.lc) ∧ w.cell? ⟨b, 4, none⟩ = some (.slice f.ca f.code.length f.cc) :=
  ⟨h.cell rfl, h.cell rfl, h.cell rfl, h.cell rfl, h.cell rfl⟩
/-- The kind of a site; 0: there is none. -/
def kindP (p : Prg) (n : Int) : Int := if 0 ≤ n then (p.sites[n.toNat]?.map (·.kind)).getD 0 else 0
theorem kindP_in {p : Prg} {k : Nat} (h : k < p.sites.length) : kindP p k = p.sites[k].kind := by
  unfold kindP
  rw [if_pos (by omega)]
  simp [h]
theorem kindP_out {p : Prg} {n : Int} (h : n < 0 ∨ (p.sites.length : Int) ≤ n) : kindP p n = 0 := by
  unfold kindP
  by_cases h0 : 0 ≤ n
  · rw [if_pos h0, List.getElem?_eq_none (by omega)]; rfl
  · rw [if_neg h0]
set_option maxRecDepth 100000 in
set_option maxHeartbeats 2000000 in
theorem Kind_any (p : Prg) (n : Int) (w : World) (hp : PrgOk w p) :
    Calls Tryz.prog 26 #[prgV p, .int .i64 n] w fun e w' => e = .returned (.int .i64 (kindP p n)) ∧ w.grownBy w' none := by
  have hs := hp.2.2.1
  have hl := hp.1
  unfold prgV prgC
  by_cases h0 : n < 0
  · rw [kindP_out (.inl h0)]
    have g0 : decide (n < 0) = true := by simpa using h0
    clear h0 hp hs
    go_enter Tryz.func26, Tryz.ntmps26
    go_wp2_with fail
    go_ret
    exact ⟨rfl, by repeat (first | with_reducible exact grownBy_refl _ _ | with_reducible assumption | with_reducible refine World.grownBy.gr_drew ?_ | with_reducible refine World.grownBy.gr_set ?_ (by simp) _ | with_reducible refine gr_alloc ?_ _)⟩
  · by_cases h1 : (p.sites.length : Int) ≤ n
    · rw [kindP_out (.inr h1)]
      have g0 : decide (n < 0) = false := by simpa using h0
      clear h0 hp hs
      go_enter Tryz.func26, Tryz.ntmps26
      go_wp2_with fail
      go_ret
      exact ⟨rfl, by repeat (first | with_reducible exact grownBy_refl _ _ | with_reducible assumption | with_reducible refine World.grownBy.gr_drew ?_ | with_reducible refine World.grownBy.gr_set ?_ (by simp) _ | with_reducible refine gr_alloc ?_ _)⟩
    · obtain ⟨k, rfl⟩ : ∃ k : Nat, n = k := ⟨n.toNat, by omega⟩
      have hk : k < p.sites.length := by omega
      rw [kindP_in hk]
      obtain ⟨ad, ha, hc, _⟩ := (hs.keep (CellsK.alloc w (.cells (prgC p) 25))).at_ hk
      have c0 := hc (.int .i64 p.sites[k].kind) rfl
      rw [ha]
      unfold prgC at c0
      rw [ha] at c0
      clear hp hs hc h0 h1
      go_enter Tryz.func26, Tryz.ntmps26
      go_wp2_with fail
      go_ret
      exact ⟨rfl, by repeat (first | with_reducible exact grownBy_refl _ _ | with_reducible assumption | with_reducible refine World.grownBy.gr_drew ?_ | with_reducible refine World.grownBy.gr_set ?_ (by simp) _ | with_reducible refine gr_alloc ?_ _)⟩
/-- Are the first sites those of the functions, and no other one? -/
def sitesB (p : Prg) (k : Nat) : Bool := (List.range k).all fun j => decide ((kindP p j = 4) ↔ j < p.fns.length)
def eachB (p : Prg) : Bool := decide (p.fns.length ≤ p.sites.length) && sitesB p p.sites.length
theorem sitesB_succ (p : Prg) (k : Nat) : sitesB p (k + 1) = (sitesB p k && decide ((kindP p k = 4) ↔ k < p.fns.length)) := by
  unfold sitesB
  rw [List.range_succ, List.all_append]
  simp
theorem sitesB_false {p : Prg} {k : Nat} (hk : k < p.sites.length) (h : ¬ ((kindP p k = 4) ↔ k < p.fns.length)) : sitesB p p.sites.length = false := by
  unfold sitesB
  rw [List.all_eq_false]
  exact ⟨k, by simpa using hk, by simpa using h⟩

end Go.Proofs.YtajmkdbokdjmeaaGreat
/- ir: siteEach, head. -/
namespace Go.Proofs.YtajmkdbokdjmeaaGreat
open Go.RowKit
theorem sit_cells {w : World} {p : Prg} {k : Nat} (h : StrAt sitC 8 w p.sa p.sites) (hk : k < p.sites.length) : ∃ ad, p.sa = some ad ∧
    w.cell? (ad.add (k * 8)) = some (.int .i64 p.sites[k].kind) ∧ w.cell? ⟨(ad.add (k * 8)).block, (ad.add (k * 8)).off + 1, none⟩ = some (.int .i64 p.sites[k].size) ∧ w.cell? ⟨(ad.add (k * 8)).block, (ad.add (k * 8)).off + 2, none⟩ = some (.int .i64 p.sites[k].func) ∧ w.cell? ⟨(ad.add (k * 8)).block, (ad.add (k * 8)).off + 3, none⟩ = some (.string p.sites[k].name) ∧ w.cell? ⟨(ad.add (k * 8)).block, (ad.add (k * 8)).off + 4, none⟩ = some (.int .i64 p.sites[k].tk) ∧ w.cell? ⟨(ad.add (k * 8)).block, (ad.add (k * 8)).off + 5, none⟩ = some (.int .i64 p.sites[k].tn) ∧ w.cell? ⟨(ad.add (k * 8)).block, (ad.add (k * 8)).off + 6, none⟩ = some (.string p.sites[k].tname) ∧ w.cell? ⟨(ad.add (k * 8)).block, (ad.add (k * 8)).off + 7, none⟩ = some (.slice p.sites[k].toa p.sites[k].ton p.sites[k].toc) := by
  obtain ⟨ad, ha, hc, hd⟩ := h.at_ hk
  exact ⟨ad, ha, hc _ rfl, hd 0 _ rfl, hd 1 _ rfl, hd 2 _ rfl, hd 3 _ rfl, hd 4 _ rfl, hd 5 _ rfl, hd 6 _ rfl⟩
theorem fun_cells {w : World} {p : Prg} {k : Nat} (h : StrAt funC 5 w p.fa p.fns) (hk : k < p.fns.length) : ∃ ad, p.fa = some ad ∧
    w.cell? (ad.add (k * 5)) = some (.string p.fns[k].name) ∧ w.cell? ⟨(ad.add (k * 5)).block, (ad.add (k * 5)).off + 1, none⟩ = some (.int .i64 p.fns[k].regs) ∧ w.cell? ⟨(ad.add (k * 5)).block, (ad.add (k * 5)).off + 2, none⟩ = some (.int .i64 p.fns[k].params) ∧ w.cell? ⟨(ad.add (k * 5)).block, (ad.add (k * 5)).off + 3, none⟩ = some (.slice p.fns[k].la p.fns[k].locals.length p.fns[k].lc) ∧ w.cell? ⟨(ad.add (k * 5)).block, (ad.add (k * 5)).off + 4, none⟩ = some (.slice p.fns[k].ca p.fns[k].code.length p.fns[k].cc) := by
  obtain ⟨ad, ha, hc, hd⟩ := h.at_ hk
  exact ⟨ad, ha, hc _ rfl, hd 0 _ rfl, hd 1 _ rfl, hd 2 _ rfl, hd 3 _ rfl⟩
theorem ins_cells {w : World} {f : Fun'} {k : Nat} (h : StrAt insC 8 w f.ca f.code) (hk : k < f.code.length) : ∃ ad, f.ca = some ad ∧
    w.cell? (ad.add (k * 8)) = some (.int .i64 f.code[k].op) ∧ w.cell? ⟨(ad.add (k * 8)).block, (ad.add (k * 8)).off + 1, none⟩ = some (.int .i64 f.code[k].a) ∧ w.cell? ⟨(ad.add (k * 8)).block, (ad.add (k * 8)).off + 2, none⟩ = some (.int .i64 f.code[k].b) ∧ w.cell? ⟨(ad.add (k * 8)).block, (ad.add (k * 8)).off + 3, none⟩ = some (.int .i64 f.code[k].c) ∧ w.cell? ⟨(ad.add (k * 8)).block, (ad.add (k * 8)).off + 4, none⟩ = some (.int .i64 f.code[k].w) ∧ w.cell? ⟨(ad.add (k * 8)).block, (ad.add (k * 8)).off + 5, none⟩ = some (.int .i64 f.code[k].n) ∧ w.cell? ⟨(ad.add (k * 8)).block, (ad.add (k * 8)).off + 6, none⟩ = some (.string f.code[k].sign) ∧ w.cell? ⟨(ad.add (k * 8)).block, (ad.add (k * 8)).off + 7, none⟩ = some (.slice f.code[k].aa f.code[k].an f.code[k].ac) := by
  obtain ⟨ad, ha, hc, hd⟩ := h.at_ hk
  exact ⟨ad, ha, hc _ rfl, hd 0 _ rfl, hd 1 _ rfl, hd 2 _ rfl, hd 3 _ rfl, hd 4 _ rfl, hd 5 _ rfl, hd 6 _ rfl⟩
theorem ret_bool {a b : Bool} (h : a = b) : Ending.returned (.bool a) = .returned (.bool b) := by rw [h]
theorem ret_i64 {a b : Int} (h : a = b) : Ending.returned (.int .i64 a) = .returned (.int .i64 b) := by rw [h]
def SeRel (p : Prg) (w : World) (v : Value) (wr : World) : Prop := ∃ k : Nat, k ≤ p.sites.length ∧ v = .int .i64 k ∧ sitesB p k = true ∧ BoxC (prgC p) 25 w.heap.size wr ∧ w.grownBy wr none
end Go.Proofs.YtajmkdbokdjmeaaGreat
/- ir: head. -/
namespace Go.Proofs.YtajmkdbokdjmeaaGreat
open Go.RowKit
def funcOf (p : Prg) (n : Int) : Int := if 0 ≤ n then (p.sites[n.toNat]?.map (·.func)).getD 0 else 0
theorem funcOf_in {p : Prg} {k : Nat} (h : k < p.sites.length) : funcOf p k = p.sites[k].func := by
  unfold funcOf
  rw [if_pos (by omega)]
  simp [h]
def locB (p : Prg) (n : Nat) (k : Int) : Bool := (kindP p k == 2) && (funcOf p k == (n : Int))
def bigB (f : Fun') : Bool := decide (f.code.length = 0 ∨ 4000 < f.code.length ∨ 4000 < f.regs ∨ f.regs < f.params ∨ f.params < 0)
def locE (p : Prg) (n : Nat) (f : Fun') : Int := if f.locals.all (locB p n) then 0 else 8
theorem locE_yes {p : Prg} {n : Nat} {f : Fun'} (h : f.locals.all (locB p n) = true) : locE p n f = 0 := by unfold locE; rw [h]; rfl
theorem locE_no {p : Prg} {n : Nat} {f : Fun'} (h : f.locals.all (locB p n) = false) : locE p n f = 8 := by unfold locE; rw [h]; rfl
def headF (p : Prg) (n : Nat) (f : Fun') : Int := if bigB f then 5 else locE p n f
def HdRel (p : Prg) (n : Nat) (f : Fun') (w : World) (v : Value) (wr : World) : Prop :=
  ∃ k : Nat, k ≤ f.locals.length ∧ v = .int .i64 k ∧ (f.locals.take k).all (locB p n) = true ∧ BoxC (prgC p) 25 w.heap.size wr ∧ BoxC (funC f) 39 (w.heap.size + 1) wr ∧ w.grownBy wr none
end Go.Proofs.YtajmkdbokdjmeaaGreat
/- ir: allWithin and what it returns; between. -/
namespace Go.Proofs.YtajmkdbokdjmeaaGreat
open Go.RowKit
def allB (n : Int) (l : List Int) : Bool := l.all (inB · n)
def signsT : List (List UInt8) := [[43], [45], [42], [47], [37], [38], [124], [94], [60, 60], [62, 62], [61, 61], [33, 61], [60], [60, 61], [62], [62, 61]]
def betB (s : ByteArray) : Bool := signsT.any fun l => s.toList == l
end Go.Proofs.YtajmkdbokdjmeaaGreat
