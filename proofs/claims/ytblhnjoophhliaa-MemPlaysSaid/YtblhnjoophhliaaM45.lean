/- MemPlays: a memory of the program's and the document's, side by side. -/
import Derived.Test.YtblhnjoophhliaaM44
import Derived.Test.YtblhnjoophhliaaM40
import Derived.Test.YtblhnjoophhliaaM39
import Derived.Test.YtblhnjoophhliaaM14
namespace Go.Proofs.Ytblhnjoophhliaa
open Go.RowKit
def OkBs (bs : List Blk) : Prop := ∀ x ∈ bs, OkM x.bytes
theorem okBs_lay {bs : List Blk} (h : OkBs bs) {l : List Byt} (hl : OkM l) (k o : Nat) : OkBs (layBs bs k o l) := by
  unfold layBs
  rcases hk : bs[k]? with _ | x
  · exact h
  · intro y hy
    rcases List.mem_or_eq_of_mem_set hy with hy | rfl
    · exact h y hy
    · exact okM_splice (h x (List.mem_of_getElem? hk)) hl o
theorem okBs_alloc {bs : List Blk} (h : OkBs bs) (site size : Int) (z : Bool) : OkBs (allocBs bs site size z).1 := by
  unfold allocBs
  split
  · intro y hy
    rcases List.mem_append.1 hy with hy | hy
    · exact h y hy
    · obtain rfl := List.mem_singleton.1 hy
      unfold newB
      dsimp only
      split
      · exact okM_nums (Int.le_refl _) (by omega) _
      · exact okM_zeros _
  · exact h
theorem okBs_ended {bs : List Blk} (h : OkBs bs) {k : Nat} {x : Blk} (hx : bs[k]? = some x) : OkBs (bs.set k { x with live := false }) := fun y hy => by
  rcases List.mem_or_eq_of_mem_set hy with hy | rfl
  · exact h y hy
  · exact h x (List.mem_of_getElem? hx)
theorem okBs_end {bs : List Blk} (h : OkBs bs) (n : Int) : OkBs (endBs bs n).1 := by
  unfold endBs
  repeat' split
  all_goals first
    | exact h
    | exact okBs_ended h (by assumption)
theorem okBs_store {bs : List Blk} (h : OkBs bs) (p : Val) (w : Int) {v : Val} (hv : welB v = true) : OkBs (storeBs bs p w v).1 := by
  unfold storeBs
  repeat' split
  all_goals first
    | exact h
    | exact okBs_lay h (okM_enc hv (by assumption)) _ _
theorem okBs_copy {bs : List Blk} (h : OkBs bs) (p q : Val) (n : Int) : OkBs (copyBs bs p q n).1 := by
  unfold copyBs
  repeat' split
  all_goals first
    | exact h
    | exact okBs_lay h (okM_seg (h _ (List.mem_of_getElem? (by assumption))) _ _) _ _
theorem okBs_fill {bs : List Blk} (h : OkBs bs) (p v n : Val) : OkBs (fillBs bs p v n).1 := by
  unfold fillBs
  repeat' split
  all_goals first
    | exact h
    | exact okBs_lay h (okM_nums (by omega) (by omega) _) _ _
/-- The program's memory and the document's: what each holds. -/
structure Pl (w W : World) (m : Nat) (r : Value) (bm br : List Blk) (L : List (Nat × Blk)) (S : Nat → Prop) (rs : List RB) (ad : Option Addr) (c : Nat) : Prop where
  st : St w W m L
  val : r = .slice ad rs.length c
  ref : RefAt S W ad rs
  far : ∀ k, S k → TyOk W k ∧ ∀ x ∈ L, x.1 ≠ k
  hm : L.map (·.2) = bm
  hr : rsB rs = br
  ok : OkBs br
def PlE (w W : World) (m : Nat) (r : Value) (bm br : List Blk) : Prop := ∃ L S rs ad c, Pl w W m r bm br L S rs ad c
theorem St.lt {w W : World} {m : Nat} {L : List (Nat × Blk)} (h : St w W m L) {x : Nat × Blk} (hx : x ∈ L) : x.1 < W.heap.size := by
  obtain ⟨row, hm⟩ := h.mem
  exact lt_of_heap (show W.heap[x.1]? = _ from (hm.bytes x hx).1)
theorem Pl.turn {w W W' : World} {m : Nat} {r : Value} {bm br bm' : List Blk} {L L' : List (Nat × Blk)} {S : Nat → Prop} {rs : List RB} {ad : Option Addr} {c : Nat} (h : Pl w W m r bm br L S rs ad c) (hs : St w W' m L') (hk : Keep W W' L)
    (hL : ∀ x ∈ L', (∃ y ∈ L, y.1 = x.1) ∨ W.heap.size ≤ x.1) (hb : L'.map (·.2) = bm') : Pl w W' m r bm' br L' S rs ad c := by
  have keep : ∀ k, S k → W'.heap[k]? = W.heap[k]? := fun k hS => by
    obtain ⟨⟨cs, t, e, ht⟩, hf⟩ := h.far k hS
    exact hk.2 k cs t e (by rcases ht with rfl | rfl <;> decide) (by rcases ht with rfl | rfl <;> decide) (fun _ => hf)
  refine ⟨hs, h.val, h.ref.keep hk.1 keep, fun k hS => ⟨?_, fun x hx e => ?_⟩, hb, h.hr, h.ok⟩
  · obtain ⟨⟨cs, t, e, ht⟩, _⟩ := h.far k hS
    exact ⟨cs, t, (keep k hS).trans e, ht⟩
  · rcases hL x hx with ⟨y, hy, e'⟩ | hx
    · exact (h.far k hS).2 y hy (e'.trans e)
    · have := h.ref.lt k hS
      omega
theorem Pl.grown {w W W' : World} {m : Nat} {r : Value} {bm br : List Blk} {L : List (Nat × Blk)} {S : Nat → Prop} {rs : List RB} {ad : Option Addr} {c : Nat} (h : Pl w W m r bm br L S rs ad c) (g : W.grownBy W' none) : Pl w W' m r bm br L S rs ad c :=
  h.turn (h.st.gr' g) (Keep.of_gr g) (fun x hx => .inl ⟨x, hx, rfl⟩) h.hm
theorem PlE.grown {w W W' : World} {m : Nat} {r : Value} {bm br : List Blk} (h : PlE w W m r bm br) (g : W.grownBy W' none) : PlE w W' m r bm br := by
  obtain ⟨L, S, rs, ad, c, h⟩ := h
  exact ⟨L, S, rs, ad, c, h.grown g⟩
theorem Pl.refd {w W W' : World} {m : Nat} {r u : Value} {bm br br' : List Blk} {L : List (Nat × Blk)} {S : Nat → Prop} {rs : List RB} {ad : Option Addr} {c : Nat} (h : Pl w W m r bm br L S rs ad c) (hp : RefP S W W' u br') (g : W.grownBy W' none) (ho : OkBs br') : PlE w W' m u bm br' := by
  obtain ⟨rs', ad', c', e, e', hr⟩ := hp
  refine ⟨L, New S W W', rs', ad', c', h.st.gr' g, e, hr, fun k hk => ?_, h.hm, e', ho⟩
  rcases hk with hk | ⟨h1, h2, h3⟩
  · exact ⟨(h.far k hk).1.gr g, (h.far k hk).2⟩
  · exact ⟨h3, fun x hx e => by have := h.st.lt hx; omega⟩
theorem set_fst {L : List (Nat × Blk)} {k : Nat} {x : Nat × Blk} (hx : L[k]? = some x) {y : Nat × Blk} (hy : y.1 = x.1) {W : World} : ∀ z ∈ L.set k y, (∃ q ∈ L, q.1 = z.1) ∨ W.heap.size ≤ z.1 := fun z hz => by
  rcases List.mem_or_eq_of_mem_set hz with hz | rfl
  · exact .inl ⟨z, hz, rfl⟩
  · exact .inl ⟨x, List.mem_of_getElem? hx, hy.symm⟩
theorem set_put {L : List (Nat × Blk)} {k : Nat} {x : Nat × Blk} (hx : L[k]? = some x) (M : List Byt) {W : World} : ∀ z ∈ L.set k (putB x M), (∃ q ∈ L, q.1 = z.1) ∨ W.heap.size ≤ z.1 := set_fst (y := putB x M) hx rfl
theorem set_end {L : List (Nat × Blk)} {k : Nat} {x : Nat × Blk} (hx : L[k]? = some x) {W : World} : ∀ z ∈ L.set k (endB x), (∃ q ∈ L, q.1 = z.1) ∨ W.heap.size ≤ z.1 := set_fst (y := endB x) hx rfl
theorem own_fst {L : List (Nat × Blk)} {W : World} : ∀ z ∈ L, (∃ q ∈ L, q.1 = z.1) ∨ W.heap.size ≤ z.1 := fun z hz => .inl ⟨z, hz, rfl⟩
theorem store_fst (L : List (Nat × Blk)) (p : Val) (n : Int) (v : Val) (W : World) : ∀ z ∈ (storeP L p n v).1, (∃ q ∈ L, q.1 = z.1) ∨ W.heap.size ≤ z.1 := by
  unfold storeP
  repeat' split
  all_goals first
    | exact own_fst
    | exact set_put (by assumption) _
    | exact set_end (by assumption)
theorem end_fst (L : List (Nat × Blk)) (n : Int) (W : World) : ∀ z ∈ (endP L n).1, (∃ q ∈ L, q.1 = z.1) ∨ W.heap.size ≤ z.1 := by
  unfold endP
  repeat' split
  all_goals first
    | exact own_fst
    | exact set_put (by assumption) _
    | exact set_end (by assumption)
theorem copy_fst (L : List (Nat × Blk)) (p q : Val) (n : Int) (W : World) : ∀ z ∈ (copyP L p q n).1, (∃ q ∈ L, q.1 = z.1) ∨ W.heap.size ≤ z.1 := by
  unfold copyP
  repeat' split
  all_goals first
    | exact own_fst
    | exact set_put (by assumption) _
    | exact set_end (by assumption)
theorem fill_fst (L : List (Nat × Blk)) (p v n : Val) (W : World) : ∀ z ∈ (fillP L p v n).1, (∃ q ∈ L, q.1 = z.1) ∨ W.heap.size ≤ z.1 := by
  unfold fillP
  repeat' split
  all_goals first
    | exact own_fst
    | exact set_put (by assumption) _
    | exact set_end (by assumption)
theorem alloc_fst (L : List (Nat × Blk)) (W : World) (site size : Int) (z : Bool) : ∀ y ∈ (allocP L W.heap.size site size z).1, (∃ q ∈ L, q.1 = y.1) ∨ W.heap.size ≤ y.1 := by
  unfold allocP
  split
  · intro y hy
    rcases List.mem_append.1 hy with hy | hy
    · exact own_fst y hy
    · obtain rfl := List.mem_singleton.1 hy
      exact .inr (Nat.le_refl _)
  · exact own_fst

end Go.Proofs.Ytblhnjoophhliaa
