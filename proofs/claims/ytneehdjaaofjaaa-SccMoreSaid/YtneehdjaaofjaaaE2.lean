/- Rows of rows: a graph in memory. -/
import Derived.Test.YtneehdjaaofjaaaZo
import Derived.Test.YtneehdjaaofjaaaE1
import Derived.Test.YtneehdjaaofjaaaW0
namespace Go.Proofs.Ytneehdjaaofjaaa
open Go.RowKit
theorem gr_setB (w : World) (p : Addr) (v : Value) : w.grownBy (w.setCell p v) (some p.block) :=
  ⟨rfl, rfl, rfl, by rw [show (w.setCell p v).heap.size = w.heap.size by simp [World.setCell]]; exact Nat.le_refl _, fun k _ hn => Below.heap_setCell _ _ _ _ (fun e => hn (by rw [e]))⟩
/-- One number more, run: and whose block its answer has. -/
theorem run_app_one {w : World} {o : Oper} (base : Nat) (v : Value) (L : List Int) (hown : OwN base w v L) (b : Nat) (y : Int) (fz : Nat × Nat)
    (hb : w.heap[b]? = some (.cells #[.int .i64 y] 3 fz)) (hn : L.length ≤ 1000000000000) (hbase : base ≤ w.heap.size) :
    ∃ v' w', (Builtin.append_ #[27, 27] o.type #[v, .slice (some ⟨b, 0, none⟩) 1 1]).run Try.prog w = .ok v' w' ∧ Hid (OwN base w' v' (L ++ [y])) ∧ Hid (w.grownBy w' v.ownBlock) ∧ Hid (∀ g, v'.ownBlock = some g → v.ownBlock = some g ∨ w.heap.size ≤ g) := by
  obtain ⟨i0, hi, hz0, hz1, hz2⟩ := info_parts infoInt
  have hnews : ∀ (j : Nat) (u : Value), [Value.int .i64 y][j]? = some u → w.cell? ((⟨b, 0, none⟩ : Addr).add j) = some u := fun j u hu => by
    rw [add_none, Nat.zero_add, cell_of_row _ _ _ _ _ _ hb, ← Array.getElem?_toList]
    exact hu
  have h1c : ∀ u ∈ [Value.int .i64 y], u.oneCell' = true := fun u hu => by simp at hu; subst hu; rfl
  have hl : (intsV L).length = L.length := intsV_length L
  obtain ⟨v', w', hr, h2, h3, _⟩ := run_append_own (P := Try.prog) w base 27 o.type 3 i0 _ 1 8 Try.underlying27 hi hz0 hz1 hz2 rfl (by decide) v L.length (intsV L) hown ⟨b, 0, none⟩ 1 1 [.int .i64 y] rfl hnews h1c (by unfold maxLen; omega) (by omega) hbase
  have hblk : ∀ g, v'.ownBlock = some g → v.ownBlock = some g ∨ w.heap.size ≤ g := by
    intro g hg
    rcases hown.2 with ⟨rfl, _⟩ | ⟨g0, cap, cur, rfl, hbg, hh, hnc, hcm, hcs, htake⟩
    · have hr2 := run_append_nil (P := Try.prog) w 27 o.type 3 i0 _ Try.underlying27 hi hz0 ⟨b, 0, none⟩ 1 1 [.int .i64 y] (by rw [hz1]; rfl) hnews (by omega) (by omega) (by rw [hz2]; omega)
      rw [hr2] at hr
      injection hr with e1 e2
      subst e1
      injection hg with hg
      exact .inr (by show w.heap.size ≤ g; have : w.heap.size = g := hg; omega)
    · by_cases hroom : L.length + 1 ≤ cap
      · have hr2 := run_append_room (P := Try.prog) w 27 o.type 3 i0 Try.underlying27 hi g0 L.length cap cur hh ⟨b, 0, none⟩ 1 1 [.int .i64 y] (by rw [hz1]; rfl) hnews h1c hroom (by rw [hz1, hcs]; show L.length * 1 + 1 ≤ cap * 1; omega)
        rw [hr2] at hr
        injection hr with e1 e2
        subst e1
        exact .inl hg
      · have hr2 := run_append_grow (P := Try.prog) w 27 o.type 3 i0 _ Try.underlying27 hi hz0 ⟨g0, 0, none⟩ L.length cap (intsV L) (by rw [hz1, hl]; omega) (World.ownsRow.cells hown (g := g0) rfl) ⟨b, 0, none⟩ 1 1 [.int .i64 y] (by rw [hz1]; rfl) hnews (by omega) (by omega) (by rw [hz2]; exact growslice_fits (by omega) (by omega))
        rw [hr2] at hr
        injection hr with e1 e2
        subst e1
        injection hg with hg
        exact .inr (by show w.heap.size ≤ g; have : w.heap.size = g := hg; omega)
  refine ⟨v', w', hr, ?_, h3, hblk⟩
  show OwN base w' v' (L ++ [y])
  unfold OwN
  rw [intsV_append, List.length_append]
  exact h2
/-- One number more: and whose block its answer has. -/
theorem app_one2 {w : World} {ops : Array Oper} {rest : List Oper} {o : Oper} {a : Act} {Q : Exit → Act → World → Prop} (hgd : o.guard = none) (s x : Operand)
    (ho : o.op = .call { callee := .builtin .append, args := #[s, x], argTypes := #[27, 27] })
    (base : Nat) (v : Value) (L : List Int) (hs : a.eval s = v) (hown : OwN base w v L) (b : Nat) (y : Int) (fz : Nat × Nat)
    (hx : a.eval x = .slice (some ⟨b, 0, none⟩) 1 1) (hb : w.heap[b]? = some (.cells #[.int .i64 y] 3 fz)) (hn : L.length ≤ 1000000000000) (hbase : base ≤ w.heap.size)
    (h : ∀ v' w', Hid (OwN base w' v' (L ++ [y])) → Hid (w.grownBy w' v.ownBlock) → Hid (∀ g, v'.ownBlock = some g → v.ownBlock = some g ∨ w.heap.size ≤ g) → wpList Try.prog ops Q rest (a.put o.dst v') w') : wpList Try.prog ops Q (o :: rest) a w := by
  obtain ⟨v', w', hr, h2, h3, h4⟩ := run_app_one (o := o) base v L hown b y fz hb hn hbase
  refine wpList_plain hgd fun K hK => ?_
  unfold Oper.wp execOp
  simp only [ho, resolve, invoke, builtin, Sem.run_bind, Sem.run_pure, Result.andThen_ok, List.map_toArray, List.map_cons, List.map_nil, hs, hx, hr]
  exact hK _ _ (h v' w' h2 h3 h4)
/-- Rows in memory, all of them in blocks that O names. -/
def GrP (w : World) (A : Option Addr) (G : List (List Int)) (O : Nat → Prop) : Prop :=
  ∀ i row, G[i]? = some row → ∃ ad B d, A = some ad ∧ O ad.block ∧ w.cell? (ad.add i) = some (.slice B row.length d) ∧ IntsAt w B row.length d row ∧ ∀ bd, B = some bd → row ≠ [] → O bd.block
theorem GrP.keep {w w' : World} {A : Option Addr} {G : List (List Int)} {O : Nat → Prop} (h : GrP w A G O) (g : ∀ k, O k → k < w.heap.size → w'.heap[k]? = w.heap[k]?) : GrP w' A G O := fun i row hi => by
  obtain ⟨ad, B, d, e, ho, hc, hI, hB⟩ := h i row hi
  have hlt := World.block_lt_of_cell? w _ hc
  rw [add_block] at hlt
  refine ⟨ad, B, d, e, ho, ?_, hI.to fun hl bd e => ?_, hB⟩
  · exact (World.cell?_of_block (by rw [add_block]; exact g _ ho hlt)).trans hc
  · subst e
    exact g _ (hB _ rfl hl) (hI.lt hl)
theorem GrP.mono {w : World} {A : Option Addr} {G : List (List Int)} {O U : Nat → Prop} (h : GrP w A G O) (k : ∀ x, O x → x < w.heap.size → U x) : GrP w A G U := fun i row hi => by
  obtain ⟨ad, B, d, e, ho, hc, hI, hB⟩ := h i row hi
  have hlt := World.block_lt_of_cell? w _ hc
  rw [add_block] at hlt
  refine ⟨ad, B, d, e, k _ ho hlt, hc, hI, fun bd e hne => k _ (hB bd e hne) ?_⟩
  subst e
  exact hI.lt hne
/-- Rows in memory, none of them in block o. -/
abbrev GrAt (w : World) (A : Option Addr) (G : List (List Int)) (o : Option Nat) : Prop := GrP w A G fun k => some k ≠ o
theorem GrAt.keep {w w' : World} {A : Option Addr} {G : List (List Int)} {o : Option Nat} (h : GrAt w A G o) (g : w.grownBy w' o) : GrAt w' A G o := GrP.keep h fun k ho hk => g.block k hk ho
/-- A graph of the call's own: its rows each in a block of their own. -/
structure GrO (base : Nat) (W : World) (o : Nat) (vs : List Value) (G : List (List Int)) : Prop where
  made ::
  out : W.heap[o]? = some (.cells vs.toArray 27 (0, 0))
  lo : base ≤ o
  len : vs.length = G.length
  row : ∀ (i : Nat) (r : List Int), G[i]? = some r → ∃ v : Value, vs[i]? = some v ∧ OwN base W v r
  apart : ∀ (i j : Nat) (v u : Value) (k : Nat), i ≠ j → vs[i]? = some v → vs[j]? = some u → v.ownBlock = some k → u.ownBlock ≠ some k
theorem OwN.slice {base : Nat} {W : World} {v : Value} {l : List Int} (h : OwN base W v l) : ∃ A c, v = .slice A l.length c := by
  obtain ⟨A, c, e, _⟩ := h.ints
  exact ⟨A, c, e⟩
theorem GrO.gr {base : Nat} {W W' : World} {o : Nat} {vs : List Value} {G : List (List Int)} (h : GrO base W o vs G) (g : W.grownBy W' none) : GrO base W' o vs G :=
  ⟨(g.block _ (lt_of_heap h.out) (by simp)).trans h.out, h.lo, h.len, fun i r hi => by
    obtain ⟨v, h1, h2⟩ := h.row i r hi
    exact ⟨v, h1, h2.gr g⟩, h.apart⟩
theorem GrO.first {base : Nat} {W : World} {b N : Nat} (h : W.ownsRow base 27 1 (.slice (some ⟨b, 0, none⟩) N N) N (List.replicate N (.slice none 0 0))) : GrO base W b (List.replicate N (.slice none 0 0)) (List.replicate N []) := by
  rcases h.2 with ⟨h', _⟩ | ⟨g, cap, cur, h', hg, hh, hn, _, hs, ht⟩
  · cases h'
  · injection h' with h1 h2 h3
    injection h1 with h1
    injection h1 with h1
    subst h1 h3
    have hcur : cur = (List.replicate N (Value.slice none 0 0)).toArray := by
      have hl : cur.toList.length = N := by rw [Array.length_toList, hs, Nat.mul_one]
      rw [Nat.mul_one, List.take_of_length_le (by omega)] at ht
      rw [← ht]
    rw [hcur] at hh
    refine ⟨hh, hg, by simp, fun i r hi => ?_, fun i j v u k _ hv _ hk => ?_⟩
    · rw [List.getElem?_replicate] at hi
      split at hi
      · injection hi with hi
        subst hi
        exact ⟨_, by rw [List.getElem?_replicate, if_pos (by assumption)], OwN.nil _ _⟩
      · cases hi
    · rw [List.getElem?_replicate] at hv
      split at hv
      · injection hv with hv
        subst hv
        cases hk
      · cases hv
theorem GrO.cell {base : Nat} {W : World} {o : Nat} {vs : List Value} {G : List (List Int)} (h : GrO base W o vs G) {i : Nat} {v : Value} (hv : vs[i]? = some v) : W.cell? ⟨o, i, none⟩ = some v := by
  rw [cell_of_row _ _ _ _ _ _ h.out, ← Array.getElem?_toList]
  exact hv
theorem GrO.fr {base : Nat} {W : World} {o : Nat} {vs : List Value} {G : List (List Int)} (h : GrO base W o vs G) (i : Nat) : W.frozen? ⟨o, i, none⟩ = false := by simp [World.frozen?, h.out]
/-- A row has got one number more, and is put back. -/
theorem GrO.put {base : Nat} {W W' : World} {o : Nat} {vs : List Value} {G : List (List Int)} (h : GrO base W o vs G) {a : Nat} {v v' : Value} {row : List Int} (hrow : G[a]? = some row) (hv : vs[a]? = some v) {row' : List Int}
    (ho : OwN base W' v' row') (g : W.grownBy W' v.ownBlock) (hb : ∀ k, v'.ownBlock = some k → v.ownBlock = some k ∨ W.heap.size ≤ k) :
    GrO base (W'.setCell ⟨o, a, none⟩ v') o (vs.set a v') (G.set a row') := by
  obtain ⟨v0, h1, h2⟩ := h.row a row hrow
  rw [hv] at h1
  injection h1 with h1
  subst h1
  have hal : a < vs.length := (List.getElem?_eq_some_iff.1 hv).1
  have hne : some o ≠ v.ownBlock := h2.ne h.out (by decide)
  have hout' := (g.block _ (lt_of_heap h.out) hne).trans h.out
  refine ⟨?_, h.lo, by rw [List.length_set, List.length_set]; exact h.len, fun i r hi => ?_, fun i j x y k hij hx hy hk => ?_⟩
  · simp [World.setCell, Array.getElem?_modify, hout']
  · have gs := gr_setB W' ⟨o, a, none⟩ v'
    rw [List.getElem?_set] at hi
    by_cases e : a = i
    · subst e
      rw [if_pos rfl, if_pos (by rw [← h.len]; exact hal)] at hi
      injection hi with hi
      subst hi
      refine ⟨v', by rw [List.getElem?_set, if_pos rfl, if_pos hal], ho.row gs ?_⟩
      exact .inr fun e => (ho.ne hout' (by decide)) e.symm
    · rw [if_neg e] at hi
      obtain ⟨u, h3, h4⟩ := h.row i r hi
      refine ⟨u, by rw [List.getElem?_set, if_neg e]; exact h3, ?_⟩
      have h5 : OwN base W' u r := h4.row g (by
        rcases hu : u.ownBlock with _ | k
        · exact .inl rfl
        · exact .inr fun e' => h.apart i a u v k (fun e' => e e'.symm) h3 hv hu e'.symm)
      exact h5.row gs (.inr fun e => (h5.ne hout' (by decide)) e.symm)
  · have hlt : ∀ (z : Nat) (u : Value) (k : Nat), vs[z]? = some u → u.ownBlock = some k → k < W.heap.size := fun z u k hz hk => by
      have hzl : z < G.length := by rw [← h.len]; exact (List.getElem?_eq_some_iff.1 hz).1
      obtain ⟨u', e1, e2⟩ := h.row z _ (List.getElem?_eq_getElem hzl)
      rw [hz] at e1
      injection e1 with e1
      subst e1
      exact (e2.lt k hk).2
    rw [List.getElem?_set] at hx hy
    by_cases e1 : a = i
    · subst e1
      rw [if_pos rfl, if_pos hal] at hx
      injection hx with hx
      subst hx
      rw [if_neg hij] at hy
      intro hu
      rcases hb k hk with h3 | h3
      · exact h.apart a j v y k hij hv hy h3 hu
      · have := hlt j y k hy hu
        omega
    · rw [if_neg e1] at hx
      by_cases e2 : a = j
      · subst e2
        rw [if_pos rfl, if_pos hal] at hy
        injection hy with hy
        subst hy
        intro hu
        rcases hb k hu with h3 | h3
        · exact h.apart i a x v k (fun e => e1 e.symm) hx hv hk h3
        · have := hlt i x k hx hk
          omega
      · rw [if_neg e2] at hy
        exact h.apart i j x y k hij hx hy hk
theorem GrO.atP {base : Nat} {W : World} {o : Nat} {vs : List Value} {G : List (List Int)} (h : GrO base W o vs G) : GrP W (some ⟨o, 0, none⟩) G fun k => base ≤ k := fun i row hi => by
  obtain ⟨v, h1, h2⟩ := h.row i row hi
  obtain ⟨B, d, rfl, hI, hB⟩ := h2.ints
  exact ⟨_, B, d, rfl, h.lo, by rw [add_none, Nat.zero_add]; exact h.cell h1, hI, fun bd e _ => hB bd e⟩
theorem GrO.at_ {base : Nat} {W : World} {o : Nat} {vs : List Value} {G : List (List Int)} (h : GrO base W o vs G) : GrAt W (some ⟨o, 0, none⟩) G none := fun i row hi => by
  obtain ⟨v, h1, h2⟩ := h.row i row hi
  obtain ⟨B, d, rfl, hI, _⟩ := h2.ints
  exact ⟨_, B, d, rfl, (by simp), by rw [add_none, Nat.zero_add]; exact h.cell h1, hI, fun _ _ _ => by simp⟩
/-- The rows tell R. -/
structure GrK (R : Nat → Nat → Prop) (N : Nat) (G : List (List Int)) : Prop where
  made ::
  len : G.length = N
  row : ∀ (a : Nat) (row : List Int), G[a]? = some row → ∀ x ∈ row, ∃ b : Nat, x = b ∧ b < N ∧ R a b
  all : ∀ a b, R a b → ∃ row : List Int, G[a]? = some row ∧ (b : Int) ∈ row
theorem GrK.congr {R S : Nat → Nat → Prop} {N : Nat} {G : List (List Int)} (h : GrK R N G) (k : ∀ a b, R a b ↔ S a b) : GrK S N G :=
  ⟨h.len, fun a row ha x hx => by
    obtain ⟨b, h1, h2, h3⟩ := h.row a row ha x hx
    exact ⟨b, h1, h2, (k a b).1 h3⟩, fun a b hab => h.all a b ((k a b).2 hab)⟩
theorem GrK.first {R : Nat → Nat → Prop} (hR : ∀ a b, ¬ R a b) (N : Nat) : GrK R N (List.replicate N []) := by
  refine ⟨by simp, fun a row ha x hx => ?_, fun a b h => absurd h (hR a b)⟩
  rw [List.getElem?_replicate] at ha
  split at ha
  · injection ha with ha
    subst ha
    cases hx
  · cases ha
theorem GrK.put {R S : Nat → Nat → Prop} {N : Nat} {G : List (List Int)} (h : GrK R N G) {a b : Nat} {row : List Int} (ha : G[a]? = some row) (hb : b < N) (k : ∀ x y, S x y ↔ R x y ∨ (x = a ∧ y = b)) : GrK S N (G.set a (row ++ [(b : Int)])) := by
  have hal : a < G.length := (List.getElem?_eq_some_iff.1 ha).1
  refine ⟨by rw [List.length_set]; exact h.len, fun x r hx y hy => ?_, fun x y hxy => ?_⟩
  · rw [List.getElem?_set] at hx
    by_cases e : a = x
    · subst e
      rw [if_pos rfl, if_pos hal] at hx
      injection hx with hx
      subst hx
      rcases List.mem_append.1 hy with hy | hy
      · obtain ⟨c, h1, h2, h3⟩ := h.row a row ha y hy
        exact ⟨c, h1, h2, (k _ _).2 (.inl h3)⟩
      · rw [List.mem_singleton] at hy
        exact ⟨b, hy, hb, (k _ _).2 (.inr ⟨rfl, rfl⟩)⟩
    · rw [if_neg e] at hx
      obtain ⟨c, h1, h2, h3⟩ := h.row x r hx y hy
      exact ⟨c, h1, h2, (k _ _).2 (.inl h3)⟩
  · rw [List.getElem?_set]
    rcases (k _ _).1 hxy with h1 | ⟨rfl, rfl⟩
    · obtain ⟨r, h2, h3⟩ := h.all x y h1
      by_cases e : a = x
      · subst e
        rw [ha] at h2
        injection h2 with h2
        subst h2
        exact ⟨_, by rw [if_pos rfl, if_pos hal], by simp [h3]⟩
      · exact ⟨r, by rw [if_neg e]; exact h2, h3⟩
    · exact ⟨_, by rw [if_pos rfl, if_pos hal], by simp⟩
/-- No row is longer than K. -/
def Short (K : Nat) (G : List (List Int)) : Prop := ∀ (i : Nat) (row : List Int), G[i]? = some row → row.length ≤ K
theorem Short.first (K N : Nat) : Short K (List.replicate N []) := fun i row hi => by
  rw [List.getElem?_replicate] at hi
  split at hi
  · injection hi with hi
    subst hi
    exact Nat.zero_le _
  · cases hi
theorem Short.mono {K L : Nat} {G : List (List Int)} (h : Short K G) (k : K ≤ L) : Short L G := fun i row hi => Nat.le_trans (h i row hi) k
theorem Short.put {K L : Nat} {G : List (List Int)} (h : Short K G) {a : Nat} {row : List Int} {y : Int} (ha : G[a]? = some row) (k : K + 1 ≤ L) : Short L (G.set a (row ++ [y])) := fun i r hi => by
  have hal : a < G.length := (List.getElem?_eq_some_iff.1 ha).1
  rw [List.getElem?_set] at hi
  by_cases e : a = i
  · subst e
    rw [if_pos rfl, if_pos hal] at hi
    injection hi with hi
    subst hi
    have := h a row ha
    rw [List.length_append, List.length_singleton]
    omega
  · rw [if_neg e] at hi
    have := h i r hi
    omega
theorem made_sl (N : Nat) : (madeCells (Value.slice none 0 0).cells (N * 1)).toList = List.replicate N (Value.slice none 0 0) := by
  rw [Nat.mul_one]
  exact toList_madeCells_one _ _
theorem GrO.made_ {base : Nat} {W : World} {b N : Nat} (h : W.ownsRow base 27 1 (.slice (some ⟨b, 0, none⟩) N N) N (madeCells (Value.slice none 0 0).cells (N * 1)).toList) : GrO base W b (List.replicate N (.slice none 0 0)) (List.replicate N []) := by
  rw [made_sl] at h
  exact .first h
theorem infoSlI : (Try.prog.info? 27).map (fun i => (i.zero, i.size, i.bytes)) = some (some (.slice none 0 0), 1, 24) := by kernel_rfl

end Go.Proofs.Ytneehdjaaofjaaa
