/- ir: Reads: a row's letters, one by one. -/
import Derived.Test.YtdknclhbnhiojaaDoorI3
import Derived.RangeFuncRecord
namespace Go.Proofs.YtdknclhbnhiojaaDoor
open Go.RowKit
theorem next_at (w : World) (b : Nat) (s : ByteArray) (pos : Nat) (ty : TypeId) (hb : w.heap[b]? = some (.stringIter s pos)) (h : pos < s.size) (ha : (s[pos]'h).toNat < 128) :
    (Instr.next (.pointer (some ⟨b, 0, none⟩)) true ty).run Tryd.prog w = .ok (.tuple #[.bool true, .int .i64 pos, .int .i32 (s[pos]'h).toNat]) (w.putObj b (.stringIter s (pos + 1))) := by
  simp only [Instr.next, getObj, setObj, Sem.run_bind, Sem.run, hb, Result.andThen, h, if_true, decode_ascii s pos h ha]
  simp [goInt, Sem.run, World.putObj]
theorem next_end (w : World) (b : Nat) (s : ByteArray) (pos : Nat) (ty : TypeId) (hb : w.heap[b]? = some (.stringIter s pos)) (h : ¬ pos < s.size) :
    (Instr.next (.pointer (some ⟨b, 0, none⟩)) true ty).run Tryd.prog w = .ok (.tuple #[.bool false]) w := by
  simp [Instr.next, getObj, Sem.run, hb, h]
theorem gr_put {a b : World} {r : Option Nat} (h : a.grownBy b r) {k : Nat} (hk : a.heap.size ≤ k) (o : Obj) : a.grownBy (b.putObj k o) r :=
  ⟨h.os, h.tape, h.output, by simpa [World.putObj] using h.size, fun i hi hn => (World.putObj_heap_other (by omega)).trans (h.block i hi hn)⟩
theorem own_keep {w w' : World} {base : Nat} {e : TypeId} {size n : Nat} {v : Value} {xs : List Value} (h : w.ownsRow base e size v n xs) (hk : ∀ g, base ≤ g → g < w.heap.size → w'.heap[g]? = w.heap[g]?) : w'.ownsRow base e size v n xs := by
  refine ⟨h.1, h.2.imp id ?_⟩
  rintro ⟨g, cap, cur, hv, hg, hh, r⟩
  exact ⟨g, cap, cur, hv, hg, (hk g hg (lt_of_heap hh)).trans hh, r⟩
theorem own_gr {w w' : World} {base : Nat} {e : TypeId} {size n : Nat} {v : Value} {xs : List Value} (h : w.ownsRow base e size v n xs) (g : w.grownBy w' none) : w'.ownsRow base e size v n xs :=
  own_keep h fun k _ hk => g.block k hk (by simp)
theorem IntsAt.of_own {w : World} {base : Nat} {e : TypeId} {v : Value} {l : List Int} (h : w.ownsRow base e 1 v l.length (intsV l)) : ∃ A n c, v = .slice A n c ∧ IntsAt w A n c l := by
  rcases h.2 with ⟨rfl, hn⟩ | ⟨g, cap, cur, rfl, hg, hh, hnc, hcap, hsz, hcur⟩
  · have : l = [] := List.eq_nil_of_length_eq_zero hn
    subst this
    exact ⟨none, 0, 0, rfl, IntsAt.nil w⟩
  · refine ⟨_, _, _, rfl, rfl, .inr ⟨_, rfl, fun j x hx => ?_⟩⟩
    have hj : j < l.length := (List.getElem?_eq_some_iff.1 hx).1
    rw [add_none, Nat.zero_add, cell_of_row _ _ _ _ _ _ hh, ← Array.getElem?_toList]
    have e1 : (cur.toList.take (l.length * 1))[j]? = cur.toList[j]? := by rw [List.getElem?_take]; simp; omega
    rw [← e1, hcur]
    simp [intsV, hx]
/-- A row's own block turns, no elder one. -/
theorem gr_own {w w1 w2 : World} {r : Option Nat} (h : w.grownBy w1 none) (g : w1.grownBy w2 r) (hr : ∀ k, r = some k → w.heap.size ≤ k) : w.grownBy w2 none :=
  ⟨g.os.trans h.os, g.tape.trans h.tape, g.output.trans h.output, Nat.le_trans h.size g.size, fun k hk _ => by
    rw [g.block k (Nat.lt_of_lt_of_le hk h.size) (fun e => by have := hr _ e.symm; omega)]
    exact h.block k hk (by simp)⟩
theorem own_at {w : World} {base : Nat} {e : TypeId} {size n : Nat} {v : Value} {xs : List Value} (h : w.ownsRow base e size v n xs) {k : Nat} (hk : v.ownBlock = some k) : base ≤ k ∧ k < w.heap.size := by
  rcases h.2 with ⟨rfl, _⟩ | ⟨g, cap, cur, rfl, hg, hh, _⟩
  · simp [Value.ownBlock] at hk
  · simp [Value.ownBlock] at hk; subst hk; exact ⟨hg, lt_of_heap hh⟩
theorem own_nil (w : World) (base : Nat) (e : TypeId) (size : Nat) : w.ownsRow base e size (.slice none 0 0) 0 [] := ⟨by simp, .inl ⟨rfl, rfl⟩⟩
/-- The instruction lies in a block of its own. -/
def BoxI (i : Ins) (b : Nat) (w : World) : Prop := w.heap[b]? = some (.cells (insC i) 24 (0, 0))
theorem BoxI.to {i : Ins} {b : Nat} {w w' : World} (h : BoxI i b w) (hk : w'.heap[b]? = w.heap[b]?) : BoxI i b w' := hk.trans h
theorem BoxI.gr {i : Ins} {b : Nat} {w w' : World} (h : BoxI i b w) (g : w.grownBy w' none) : BoxI i b w' := h.to (g.block b (lt_of_heap h) (by simp))
theorem BoxI.cells {i : Ins} {b : Nat} {w : World} (h : BoxI i b w) : w.cell? ⟨b, 0, none⟩ = some (.int .i64 i.op) ∧ w.cell? ⟨b, 1, none⟩ = some (.int .i64 i.a) ∧ w.cell? ⟨b, 2, none⟩ = some (.int .i64 i.b) ∧ w.cell? ⟨b, 3, none⟩ = some (.int .i64 i.c) ∧
    w.cell? ⟨b, 4, none⟩ = some (.int .i64 i.w) ∧ w.cell? ⟨b, 5, none⟩ = some (.int .i64 i.n) ∧ w.cell? ⟨b, 6, none⟩ = some (.string i.sign) ∧ w.cell? ⟨b, 7, none⟩ = some (.slice i.aa i.an i.ac) := by
  have hc := fun j => cell_of_row w b j _ _ _ h
  exact ⟨by rw [hc]; rfl, by rw [hc]; rfl, by rw [hc]; rfl, by rw [hc]; rfl, by rw [hc]; rfl, by rw [hc]; rfl, by rw [hc]; rfl, by rw [hc]; rfl⟩
theorem readsS_take (i : Ins) (s : ByteArray) (pos : Nat) (h : pos < s.size) : readsS i (s.data.toList.take (pos + 1)) = readsS i (s.data.toList.take pos) ++ readL i ((s[pos]'h).toNat : Int) := by
  have hl : pos < s.data.toList.length := by simpa using h
  rw [List.take_succ_eq_append_getElem hl]
  unfold readsS
  rw [List.flatMap_append, List.flatMap_singleton]
  rfl
theorem readsS_len (i : Ins) (l : List UInt8) (k : Nat) : (readsS i (l.take k)).length ≤ (readsS i l).length := by
  unfold readsS
  have := List.take_append_drop k l
  calc ((l.take k).flatMap _).length ≤ ((l.take k).flatMap (fun c => readL i (c.toNat : Int)) ++ (l.drop k).flatMap (fun c => readL i (c.toNat : Int))).length := by rw [List.length_append]; omega
    _ = _ := by rw [← List.flatMap_append, this]
theorem intsV_append (a b : List Int) : intsV (a ++ b) = intsV a ++ intsV b := by simp [intsV]
theorem intsV_length (a : List Int) : (intsV a).length = a.length := by simp [intsV]
theorem intsV_one (l : List Int) : ∀ u ∈ intsV l, u.oneCell' = true := by
  intro u hu
  obtain ⟨x, _, rfl⟩ := List.mem_map.1 hu
  rfl
/-- What stands ahead of a round of Reads. -/
def RdRel (i : Ins) (s : ByteArray) (w : World) (v : Value) (wr : World) : Prop :=
  ∃ pos, pos ≤ s.size ∧ wr.heap[w.heap.size + 1]? = some (.stringIter s pos) ∧ wr.ownsRow (w.heap.size + 2) 3 1 v (readsS i (s.data.toList.take pos)).length (intsV (readsS i (s.data.toList.take pos))) ∧ w.grownBy wr none ∧ BoxI i w.heap.size wr

end Go.Proofs.YtdknclhbnhiojaaDoor
