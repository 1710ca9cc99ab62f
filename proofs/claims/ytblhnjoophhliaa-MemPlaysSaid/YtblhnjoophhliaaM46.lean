/- MemPlays: the calls, on both sides. -/
import Derived.Test.YtblhnjoophhliaaM45
import Derived.Test.YtblhnjoophhliaaMV3
namespace Go.Proofs.Ytblhnjoophhliaa
open Go.RowKit
/-- Both memories, and three boxes: a deed, two values. -/
structure PB (w W : World) (m : Nat) (r : Value) (bm br : List Blk) (bd ba bb : Nat) (d : Ded) (a b : Val) : Prop where
  pl : PlE w W m r bm br
  hd : W.heap[bd]? = some (.cells (dedC d) 31 (0, 0))
  ha : VBox W ba a
  hb : VBox W bb b
  gr : w.grownBy W none
  ne : ba ≠ bb
  la : w.heap.size ≤ ba
  lb : w.heap.size ≤ bb
variable {w W W' : World} {m : Nat} {r u : Value} {bm br bm' br' : List Blk} {bd ba bb : Nat} {d : Ded} {a b : Val}
theorem PlE.gr {w W : World} {m : Nat} {r : Value} {bm br : List Blk} (h : PlE w W m r bm br) : w.grownBy W none := by
  obtain ⟨L, S, rs, ad, c, h⟩ := h
  exact h.st.gr
theorem PB.grown (h : PB w W m r bm br bd ba bb d a b) (g : W.grownBy W' none) : PB w W' m r bm br bd ba bb d a b :=
  ⟨h.pl.grown g, (g.block _ (lt_of_heap h.hd) (by simp)).trans h.hd, h.ha.gr g (by simp), h.hb.gr g (by simp), grownBy_trans h.gr g, h.ne, h.la, h.lb⟩
theorem PB.kept (h : PB w W m r bm br bd ba bb d a b) {L : List (Nat × Blk)} (hp : PlE w W' m r bm' br) (k : Keep W W' L) : PB w W' m r bm' br bd ba bb d a b :=
  ⟨hp, (k.2 bd _ _ h.hd (by decide) (by decide) (fun e => absurd e (by decide))).trans h.hd, h.ha.keep k, h.hb.keep k, hp.gr, h.ne, h.la, h.lb⟩
theorem PB.refd (h : PB w W m r bm br bd ba bb d a b) (hp : PlE w W' m u bm br') (g : W.grownBy W' none) : PB w W' m u bm br' bd ba bb d a b :=
  ⟨hp, (g.block _ (lt_of_heap h.hd) (by simp)).trans h.hd, h.ha.gr g (by simp), h.hb.gr g (by simp), grownBy_trans h.gr g, h.ne, h.la, h.lb⟩
theorem Pl.same {L : List (Nat × Blk)} {S : Nat → Prop} {rs : List RB} {ad : Option Addr} {c : Nat} (h : Pl w W m r bm br L S rs ad c) (k : ∀ (i : Nat) (cs : Array Value) (t : TypeId), W.heap[i]? = some (.cells cs t (0, 0)) → t ≠ 29 → W'.heap[i]? = W.heap[i]?) (hs : W.heap.size ≤ W'.heap.size) (g : w.grownBy W' none) : Pl w W' m r bm br L S rs ad c := by
  have kS : ∀ i, S i → W'.heap[i]? = W.heap[i]? := fun i hi => by
    obtain ⟨⟨cs, t, e, ht⟩, _⟩ := h.far i hi
    exact k i cs t e (by rcases ht with rfl | rfl <;> decide)
  refine ⟨⟨?_, g⟩, h.val, h.ref.keep hs kS, fun i hi => ⟨?_, (h.far i hi).2⟩, h.hm, h.hr, h.ok⟩
  · obtain ⟨row, hm⟩ := h.st.mem
    refine ⟨row, hm.keep fun i hi => ?_⟩
    rcases hi with rfl | e | ⟨x, hx, rfl⟩
    · exact k _ _ _ hm.head (by decide)
    · rcases hm.rows.2 with ⟨e1, _⟩ | ⟨g, cap, cur, e1, hg, hh, _⟩
      · rw [e1] at e; simp [Value.ownBlock] at e
      · rw [e1] at e; simp [Value.ownBlock] at e; subst e; exact k _ _ _ hh (by decide)
    · exact k _ _ _ (show W.heap[x.1]? = _ from (hm.bytes x hx).1) (by decide)
  · obtain ⟨⟨cs, t, e, ht⟩, _⟩ := h.far i hi
    exact ⟨cs, t, (kS i hi).trans e, ht⟩
theorem PlE.set {q o : Nat} {cs : Array Value} {v : Value} (h : PlE w W m r bm br) (hq : W.heap[q]? = some (.cells cs 29 (0, 0))) (hw : w.heap.size ≤ q) : PlE w (W.setCell ⟨q, o, none⟩ v) m r bm br := by
  obtain ⟨L, S, rs, ad, c, h⟩ := h
  refine ⟨L, S, rs, ad, c, h.same (fun i cs' t e ht => ?_) (by simp) (h.st.gr.gr_set (p := ⟨q, o, none⟩) hw v)⟩
  refine Below.heap_setCell _ _ _ _ (fun e' => ?_)
  have e' : i = q := e'
  rw [e', hq] at e
  injection e with e
  injection e with _ e
  exact ht e.symm
theorem heap_set {q o : Nat} {cs : Array Value} {t : TypeId} {v : Value} (h : W.heap[q]? = some (.cells cs t (0, 0))) : (W.setCell ⟨q, o, none⟩ v).heap[q]? = some (.cells (cs.setIfInBounds o v) t (0, 0)) := by
  simp [World.setCell, Array.getElem?_modify, h]
theorem heap_far {q i o : Nat} {v : Value} (h : i ≠ q) : (W.setCell ⟨q, o, none⟩ v).heap[i]? = W.heap[i]? := Below.heap_setCell _ _ _ _ h
theorem PB.ndA (h : PB w W m r bm br bd ba bb d a b) : bd ≠ ba := fun e => by
  have h1 := h.hd
  rw [e, show W.heap[ba]? = _ from h.ha] at h1
  injection h1 with h1
  injection h1 with _ h1
  exact absurd h1 (by decide)
theorem PB.ndB (h : PB w W m r bm br bd ba bb d a b) : bd ≠ bb := fun e => by
  have h1 := h.hd
  rw [e, show W.heap[bb]? = _ from h.hb] at h1
  injection h1 with h1
  injection h1 with _ h1
  exact absurd h1 (by decide)
theorem PB.setA1 (h : PB w W m r bm br bd ba bb d a b) (n : Int) : PB w (W.setCell ⟨ba, 1, none⟩ (.int .i64 n)) m r bm br bd ba bb d ⟨a.n, n, a.f⟩ b :=
  ⟨h.pl.set h.ha h.la, (heap_far h.ndA).trans h.hd, heap_set h.ha, (heap_far h.ne.symm).trans h.hb, h.gr.gr_set (p := ⟨ba, 1, none⟩) h.la _, h.ne, h.la, h.lb⟩
theorem PB.setB1 (h : PB w W m r bm br bd ba bb d a b) (n : Int) : PB w (W.setCell ⟨bb, 1, none⟩ (.int .i64 n)) m r bm br bd ba bb d a ⟨b.n, n, b.f⟩ :=
  ⟨h.pl.set h.hb h.lb, (heap_far h.ndB).trans h.hd, (heap_far h.ne).trans h.ha, heap_set h.hb, h.gr.gr_set (p := ⟨bb, 1, none⟩) h.lb _, h.ne, h.la, h.lb⟩
theorem PB.setA0 (h : PB w W m r bm br bd ba bb d a b) (n : Int) : PB w (W.setCell ⟨ba, 0, none⟩ (.int .i64 n)) m r bm br bd ba bb d ⟨n, a.b, a.f⟩ b :=
  ⟨h.pl.set h.ha h.la, (heap_far h.ndA).trans h.hd, heap_set h.ha, (heap_far h.ne.symm).trans h.hb, h.gr.gr_set (p := ⟨ba, 0, none⟩) h.la _, h.ne, h.la, h.lb⟩
theorem PB.setB0 (h : PB w W m r bm br bd ba bb d a b) (n : Int) : PB w (W.setCell ⟨bb, 0, none⟩ (.int .i64 n)) m r bm br bd ba bb d a ⟨n, b.b, b.f⟩ :=
  ⟨h.pl.set h.hb h.lb, (heap_far h.ndB).trans h.hd, (heap_far h.ne).trans h.ha, heap_set h.hb, h.gr.gr_set (p := ⟨bb, 0, none⟩) h.lb _, h.ne, h.la, h.lb⟩
theorem PB.setA2 (h : PB w W m r bm br bd ba bb d a b) (n : Int) : PB w (W.setCell ⟨ba, 2, none⟩ (.int .i64 n)) m r bm br bd ba bb d ⟨a.n, a.b, n⟩ b :=
  ⟨h.pl.set h.ha h.la, (heap_far h.ndA).trans h.hd, heap_set h.ha, (heap_far h.ne.symm).trans h.hb, h.gr.gr_set (p := ⟨ba, 2, none⟩) h.la _, h.ne, h.la, h.lb⟩
theorem PB.setB2 (h : PB w W m r bm br bd ba bb d a b) (n : Int) : PB w (W.setCell ⟨bb, 2, none⟩ (.int .i64 n)) m r bm br bd ba bb d a ⟨b.n, b.b, n⟩ :=
  ⟨h.pl.set h.hb h.lb, (heap_far h.ndB).trans h.hd, (heap_far h.ne).trans h.ha, heap_set h.hb, h.gr.gr_set (p := ⟨bb, 2, none⟩) h.lb _, h.ne, h.la, h.lb⟩
theorem PB.setA (h : PB w W m r bm br bd ba bb d a b) (n k f : Int) : PB w (((W.setCell ⟨ba, 0, none⟩ (.int .i64 n)).setCell ⟨ba, 1, none⟩ (.int .i64 k)).setCell ⟨ba, 2, none⟩ (.int .i64 f)) m r bm br bd ba bb d ⟨n, k, f⟩ b := ((h.setA0 n).setA1 k).setA2 f
theorem PB.setB (h : PB w W m r bm br bd ba bb d a b) (n k f : Int) : PB w (((W.setCell ⟨bb, 0, none⟩ (.int .i64 n)).setCell ⟨bb, 1, none⟩ (.int .i64 k)).setCell ⟨bb, 2, none⟩ (.int .i64 f)) m r bm br bd ba bb d a ⟨n, k, f⟩ := ((h.setB0 n).setB1 k).setB2 f
theorem deed_cells (h : W.heap[bd]? = some (.cells (dedC d) 31 (0, 0))) : W.cell? ⟨bd, 0, none⟩ = some (.int .i64 d.k) ∧ W.cell? ⟨bd, 1, none⟩ = some (.int .i64 d.size) ∧ W.cell? ⟨bd, 2, none⟩ = some (.bool d.z) ∧
    W.cell? ⟨bd, 3, none⟩ = some (.int .i64 d.p.n) ∧ W.cell? ⟨bd, 4, none⟩ = some (.int .i64 d.p.b) ∧ W.cell? ⟨bd, 5, none⟩ = some (.int .i64 d.p.f) ∧
    W.cell? ⟨bd, 6, none⟩ = some (.int .i64 d.q.n) ∧ W.cell? ⟨bd, 7, none⟩ = some (.int .i64 d.q.b) ∧ W.cell? ⟨bd, 8, none⟩ = some (.int .i64 d.q.f) ∧ W.cell? ⟨bd, 9, none⟩ = some (.int .i64 d.n) := by
  have e := h
  refine ⟨?_, ?_, ?_, ?_, ?_, ?_, ?_, ?_, ?_, ?_⟩ <;> simp [World.cell?, e, dedC]
/-- What may be read of the deed. -/
theorem PB.deed (h : PB w W m r bm br bd ba bb d a b) : W.cell? ⟨bd, 0, none⟩ = some (.int .i64 d.k) ∧ W.cell? ⟨bd, 1, none⟩ = some (.int .i64 d.size) ∧ W.cell? ⟨bd, 2, none⟩ = some (.bool d.z) ∧
    W.cell? ⟨bd, 3, none⟩ = some (.int .i64 d.p.n) ∧ W.cell? ⟨bd, 4, none⟩ = some (.int .i64 d.p.b) ∧ W.cell? ⟨bd, 5, none⟩ = some (.int .i64 d.p.f) ∧
    W.cell? ⟨bd, 6, none⟩ = some (.int .i64 d.q.n) ∧ W.cell? ⟨bd, 7, none⟩ = some (.int .i64 d.q.b) ∧ W.cell? ⟨bd, 8, none⟩ = some (.int .i64 d.q.f) ∧ W.cell? ⟨bd, 9, none⟩ = some (.int .i64 d.n) := deed_cells h.hd
theorem neqSame (w : World) (n b f : Int) : (binOp .neq 29 (.agg #[.int .i64 n, .int .i64 b, .int .i64 f]) (.agg #[.int .i64 n, .int .i64 b, .int .i64 f])).run Try.prog w = .ok (.bool false) w := by
  rw [neqValB]
  simp
theorem PB.boxes (h : PB w W m r bm br bd ba bb d a b) : W.cell? ⟨ba, 0, none⟩ = some (.int .i64 a.n) ∧ W.cell? ⟨ba, 1, none⟩ = some (.int .i64 a.b) ∧ W.cell? ⟨ba, 2, none⟩ = some (.int .i64 a.f) ∧
    W.frozen? ⟨ba, 0, none⟩ = false ∧ W.frozen? ⟨ba, 1, none⟩ = false ∧ W.frozen? ⟨ba, 2, none⟩ = false ∧
    W.cell? ⟨bb, 0, none⟩ = some (.int .i64 b.n) ∧ W.cell? ⟨bb, 1, none⟩ = some (.int .i64 b.b) ∧ W.cell? ⟨bb, 2, none⟩ = some (.int .i64 b.f) ∧
    W.frozen? ⟨bb, 0, none⟩ = false ∧ W.frozen? ⟨bb, 1, none⟩ = false ∧ W.frozen? ⟨bb, 2, none⟩ = false :=
  ⟨h.ha.cells.1, h.ha.cells.2.1, h.ha.cells.2.2, h.ha.froz 0, h.ha.froz 1, h.ha.froz 2, h.hb.cells.1, h.hb.cells.2.1, h.hb.cells.2.2, h.hb.froz 0, h.hb.froz 1, h.hb.froz 2⟩
theorem pm_alloc (site size : Int) (z : Bool) (h : PB w W m r bm br bd ba bb d a b) :
    Calls Try.prog 13 #[.pointer (some ⟨m, 0, none⟩), .int .i64 site, .int .i64 size, .bool z] W fun e w' => e = .returned (.tuple #[.int .i64 (allocBs bm site size z).2.1, .int .i64 (allocBs bm site size z).2.2]) ∧ PB w w' m r (allocBs bm site size z).1 br bd ba bb d a b := by
  obtain ⟨L, S, rs, ad, c, hp⟩ := h.pl
  refine (alloc_st site size z hp.st).mono ?_
  rintro e w' ⟨rfl, hs, hk⟩
  have hB := alloc_B L W.heap.size site size z
  rw [hp.hm] at hB
  exact ⟨by rw [← hB], h.kept ⟨(allocP L W.heap.size site size z).1, S, rs, ad, c, hp.turn hs hk (alloc_fst L W site size z) (by rw [← hB])⟩ hk⟩
theorem pm_end (n : Int) (h : PB w W m r bm br bd ba bb d a b) :
    Calls Try.prog 15 #[.pointer (some ⟨m, 0, none⟩), .int .i64 n] W fun e w' => e = .returned (.int .i64 (endBs bm n).2) ∧ PB w w' m r (endBs bm n).1 br bd ba bb d a b := by
  obtain ⟨L, S, rs, ad, c, hp⟩ := h.pl
  refine (end_st n hp.st).mono ?_
  rintro e w' ⟨rfl, hs, hk⟩
  have hB := end_B L n
  rw [hp.hm] at hB
  exact ⟨by rw [← hB], h.kept ⟨(endP L n).1, S, rs, ad, c, hp.turn hs hk (end_fst L n W) (by rw [← hB])⟩ hk⟩
theorem pm_store (p v : Val) (n : Int) (h : PB w W m r bm br bd ba bb d a b) :
    Calls Try.prog 19 #[.pointer (some ⟨m, 0, none⟩), valV p, .int .i64 n, valV v] W fun e w' => e = .returned (.int .i64 (storeBs bm p n v).2) ∧ PB w w' m r (storeBs bm p n v).1 br bd ba bb d a b := by
  obtain ⟨L, S, rs, ad, c, hp⟩ := h.pl
  refine (store_st p v n hp.st).mono ?_
  rintro e w' ⟨rfl, hs, hk⟩
  have hB := store_B L p n v
  rw [hp.hm] at hB
  exact ⟨by rw [← hB], h.kept ⟨(storeP L p n v).1, S, rs, ad, c, hp.turn hs hk (store_fst L p n v W) (by rw [← hB])⟩ hk⟩
theorem pm_copy (p q : Val) (n : Int) (h : PB w W m r bm br bd ba bb d a b) :
    Calls Try.prog 21 #[.pointer (some ⟨m, 0, none⟩), valV p, valV q, .int .i64 n] W fun e w' => e = .returned (.int .i64 (copyBs bm p q n).2) ∧ PB w w' m r (copyBs bm p q n).1 br bd ba bb d a b := by
  obtain ⟨L, S, rs, ad, c, hp⟩ := h.pl
  refine (copy_st p q n hp.st).mono ?_
  rintro e w' ⟨rfl, hs, hk⟩
  have hB := copy_B L p q n
  rw [hp.hm] at hB
  exact ⟨by rw [← hB], h.kept ⟨(copyP L p q n).1, S, rs, ad, c, hp.turn hs hk (copy_fst L p q n W) (by rw [← hB])⟩ hk⟩
theorem pm_fill (p v n : Val) (h : PB w W m r bm br bd ba bb d a b) :
    Calls Try.prog 23 #[.pointer (some ⟨m, 0, none⟩), valV p, valV v, valV n] W fun e w' => e = .returned (.int .i64 (fillBs bm p v n).2) ∧ PB w w' m r (fillBs bm p v n).1 br bd ba bb d a b ∧ (∀ q x, VBox W q x → VBox w' q x) := by
  obtain ⟨L, S, rs, ad, c, hp⟩ := h.pl
  refine (fill_st p v n hp.st).mono ?_
  rintro e w' ⟨rfl, hs, hk⟩
  have hB := fill_B L p v n
  rw [hp.hm] at hB
  exact ⟨by rw [← hB], h.kept ⟨(fillP L p v n).1, S, rs, ad, c, hp.turn hs hk (fill_fst L p v n W) (by rw [← hB])⟩ hk, fun q x hq => hq.keep hk⟩
theorem pm_load (p : Val) (n : Int) (h : PB w W m r bm br bd ba bb d a b) :
    Calls Try.prog 17 #[.pointer (some ⟨m, 0, none⟩), valV p, .int .i64 n] W fun e w' => e = .returned (.tuple #[valV (loadBs bm p n).1, .int .i64 (loadBs bm p n).2]) ∧ PB w w' m r bm br bd ba bb d a b := by
  obtain ⟨L, S, rs, ad, c, hp⟩ := h.pl
  refine (load_st p n hp.st).mono ?_
  rintro e w' ⟨rfl, hs, g⟩
  have hB := load_B L p n
  rw [hp.hm] at hB
  exact ⟨by rw [← hB], h.grown g⟩
theorem pm_add (v : Val) (n : Int) (h : PB w W m r bm br bd ba bb d a b) :
    Calls Try.prog 25 #[.pointer (some ⟨m, 0, none⟩), valV v, .int .i64 n] W fun e w' => e = .returned (.tuple #[valV (addBs bm v n).1, .int .i64 (addBs bm v n).2]) ∧ PB w w' m r bm br bd ba bb d a b := by
  obtain ⟨L, S, rs, ad, c, hp⟩ := h.pl
  refine (add_st v n hp.st).mono ?_
  rintro e w' ⟨rfl, hs, g⟩
  have hB := add_B L v n
  rw [hp.hm] at hB
  exact ⟨by rw [← hB], h.grown g⟩
theorem pr_alloc (site size : Int) (z : Bool) (h : PB w W m r bm br bd ba bb d a b) :
    Calls Try.prog 14 #[r, .int .i64 site, .int .i64 size, .bool z] W fun e w' => ∃ u, e = .returned (.tuple #[u, .int .i64 (allocBs br site size z).2.1, .int .i64 (allocBs br site size z).2.2]) ∧ PB w w' m u bm (allocBs br site size z).1 bd ba bb d a b := by
  obtain ⟨L, S, rs, ad, c, hp⟩ := h.pl
  have hv := hp.val
  subst hv
  refine (rAlloc_any c site size z W hp.ref).mono ?_
  rintro e w' ⟨u, rfl, hr, g⟩
  have e := hp.hr
  subst e
  exact ⟨u, rfl, h.refd (hp.refd hr g (okBs_alloc hp.ok site size z)) g⟩
theorem pr_end (n : Int) (h : PB w W m r bm br bd ba bb d a b) :
    Calls Try.prog 16 #[r, .int .i64 n] W fun e w' => ∃ u, e = .returned (.tuple #[u, .int .i64 (endBs br n).2]) ∧ PB w w' m u bm (endBs br n).1 bd ba bb d a b := by
  obtain ⟨L, S, rs, ad, c, hp⟩ := h.pl
  have hv := hp.val
  subst hv
  refine (rEnd_any c n W hp.ref).mono ?_
  rintro e w' ⟨u, rfl, hr, g⟩
  have e := hp.hr
  subst e
  exact ⟨u, rfl, h.refd (hp.refd hr g (okBs_end hp.ok n)) g⟩
theorem pr_store (p v : Val) (n : Int) (hv : welB v = true) (h : PB w W m r bm br bd ba bb d a b) :
    Calls Try.prog 20 #[r, valV p, .int .i64 n, valV v] W fun e w' => ∃ u, e = .returned (.tuple #[u, .int .i64 (storeBs br p n v).2]) ∧ PB w w' m u bm (storeBs br p n v).1 bd ba bb d a b := by
  obtain ⟨L, S, rs, ad, c, hp⟩ := h.pl
  have hvv := hp.val
  subst hvv
  refine (rStore_any c p v n W hp.ref hv).mono ?_
  rintro e w' ⟨u, rfl, hr, g⟩
  have e := hp.hr
  subst e
  exact ⟨u, rfl, h.refd (hp.refd hr g (okBs_store hp.ok p n hv)) g⟩
theorem pr_copy (p q : Val) (n : Int) (h : PB w W m r bm br bd ba bb d a b) :
    Calls Try.prog 22 #[r, valV p, valV q, .int .i64 n] W fun e w' => ∃ u, e = .returned (.tuple #[u, .int .i64 (copyBs br p q n).2]) ∧ PB w w' m u bm (copyBs br p q n).1 bd ba bb d a b := by
  obtain ⟨L, S, rs, ad, c, hp⟩ := h.pl
  have hv := hp.val
  subst hv
  refine (rCopy_any c p q n W hp.ref).mono ?_
  rintro e w' ⟨u, rfl, hr, g⟩
  have e := hp.hr
  subst e
  exact ⟨u, rfl, h.refd (hp.refd hr g (okBs_copy hp.ok p q n)) g⟩
theorem pr_fill (p v n : Val) (h : PB w W m r bm br bd ba bb d a b) :
    Calls Try.prog 24 #[r, valV p, valV v, valV n] W fun e w' => ∃ u, e = .returned (.tuple #[u, .int .i64 (fillBs br p v n).2]) ∧ PB w w' m u bm (fillBs br p v n).1 bd ba bb d a b := by
  obtain ⟨L, S, rs, ad, c, hp⟩ := h.pl
  have hv := hp.val
  subst hv
  refine (rFill_any c p v n W hp.ref).mono ?_
  rintro e w' ⟨u, rfl, hr, g⟩
  have e := hp.hr
  subst e
  exact ⟨u, rfl, h.refd (hp.refd hr g (okBs_fill hp.ok p v n)) g⟩
theorem pr_load (p : Val) (n : Int) (h : PB w W m r bm br bd ba bb d a b) :
    Calls Try.prog 18 #[r, valV p, .int .i64 n] W fun e w' => e = .returned (.tuple #[valV (loadBs br p n).1, .int .i64 (loadBs br p n).2]) ∧ PB w w' m r bm br bd ba bb d a b := by
  obtain ⟨L, S, rs, ad, c, hp⟩ := h.pl
  have hv := hp.val
  subst hv
  have hr := hp.hr
  subst hr
  refine (rLoad_any c p n W hp.ref (fun x hx => hp.ok (rbB x) (List.mem_map.2 ⟨x, hx, rfl⟩))).mono ?_
  rintro e w' ⟨rfl, g⟩
  exact ⟨rfl, h.grown g⟩
theorem pr_add (v : Val) (n : Int) (h : PB w W m r bm br bd ba bb d a b) :
    Calls Try.prog 26 #[r, valV v, .int .i64 n] W fun e w' => e = .returned (.tuple #[valV (addBs br v n).1, .int .i64 (addBs br v n).2]) ∧ PB w w' m r bm br bd ba bb d a b := by
  obtain ⟨L, S, rs, ad, c, hp⟩ := h.pl
  have hv := hp.val
  subst hv
  have hr := hp.hr
  subst hr
  refine (rAdd_any c v n W hp.ref).mono ?_
  rintro e w' ⟨rfl, g⟩
  exact ⟨rfl, h.grown g⟩

end Go.Proofs.Ytblhnjoophhliaa
