/- Lists of ints in memory: what stages 13, 14, 15 and 19 stand on. -/
import Derived.Test.YtneehdjaaofjaaaY2
import Derived.Laws.RangeAny
import Derived.Laws.AppendOwn
import Derived.Laws.AppendOwnNone
import Derived.Tactics2
namespace Go.Proofs.Ytneehdjaaofjaaa
open Go.RowKit
theorem grownBy_refl (w : World) (r : Option Nat) : w.grownBy w r := ⟨rfl, rfl, rfl, Nat.le_refl _, fun _ _ _ => rfl⟩
theorem grownBy_trans {a b c : World} {r : Option Nat} (h : a.grownBy b r) (k : b.grownBy c r) : a.grownBy c r :=
  ⟨k.os.trans h.os, k.tape.trans h.tape, k.output.trans h.output, Nat.le_trans h.size k.size, fun i hi hn => (k.block i (Nat.lt_of_lt_of_le hi h.size) hn).trans (h.block i hi hn)⟩
theorem gr_alloc {a b : World} {r : Option Nat} (h : a.grownBy b r) (o : Obj) : a.grownBy (b.alloc o) r :=
  ⟨h.os, h.tape, h.output, Nat.le_trans h.size (by simp), fun k hk hn => (Below.heap_alloc _ _ _ (Nat.lt_of_lt_of_le hk h.size)).trans (h.block k hk hn)⟩
theorem _root_.Go.World.grownBy.gr_drew {a b : World} {r : Option Nat} (h : a.grownBy b r) : a.grownBy b.drew r := ⟨h.os, h.tape, h.output, h.size, h.block⟩
theorem gr_drewN {a b : World} {r : Option Nat} (h : a.grownBy b r) (n : Nat) : a.grownBy (b.drewN n) r := ⟨h.os, h.tape, h.output, h.size, h.block⟩
theorem _root_.Go.World.grownBy.gr_set {a b : World} {r : Option Nat} (h : a.grownBy b r) {p : Addr} (hp : a.heap.size ≤ p.block) (v : Value) : a.grownBy (b.setCell p v) r :=
  ⟨h.os, h.tape, h.output, by rw [show (b.setCell p v).heap.size = b.heap.size by simp [World.setCell]]; exact h.size, fun k hk hn => (Below.heap_setCell _ _ _ _ (by omega)).trans (h.block k hk hn)⟩
theorem lt_of_heap {w : World} {b : Nat} {o : Obj} (h : w.heap[b]? = some o) : b < w.heap.size := (Array.getElem?_eq_some_iff.1 h).1
/-- Only what is new since w has turned. -/
theorem gr_far {w a b : World} {r : Option Nat} {B : Nat} (h : w.grownBy a none) (g : a.grownBy b r) (hB : w.heap.size ≤ B) (hr : ∀ k, r = some k → B ≤ k) : w.grownBy b none :=
  ⟨g.os.trans h.os, g.tape.trans h.tape, g.output.trans h.output, Nat.le_trans h.size g.size, fun k hk _ => (g.block k (Nat.lt_of_lt_of_le hk h.size) (fun e => by have := hr k e.symm; omega)).trans (h.block k hk (by simp))⟩
def intsV (l : List Int) : List Value := l.map fun x => Value.int .i64 x
theorem intsV_length (l : List Int) : (intsV l).length = l.length := List.length_map _
theorem intsV_append (l m : List Int) : intsV (l ++ m) = intsV l ++ intsV m := List.map_append
theorem intsV_one (l : List Int) : ∀ u ∈ intsV l, u.oneCell' = true := by
  intro u hu
  simp only [intsV, List.mem_map] at hu
  obtain ⟨x, _, rfl⟩ := hu
  rfl
/-- The slice (A, n, c) holds the ints l. -/
def IntsAt (w : World) (A : Option Addr) (n c : Nat) (l : List Int) : Prop :=
  n = l.length ∧ ((A = none ∧ n = 0 ∧ c = 0) ∨ ∃ ad, A = some ad ∧ ∀ j x, l[j]? = some x → w.cell? (ad.add j) = some (.int .i64 x))
theorem IntsAt.len {w : World} {A : Option Addr} {n c : Nat} {l : List Int} (h : IntsAt w A n c l) : n = l.length := h.1
theorem add_block (ad : Addr) (j : Nat) : (ad.add j).block = ad.block := by unfold Addr.add; split <;> rfl
theorem IntsAt.to {w w' : World} {A : Option Addr} {n c : Nat} {l : List Int} (h : IntsAt w A n c l) (k : l ≠ [] → ∀ ad, A = some ad → w'.heap[ad.block]? = w.heap[ad.block]?) : IntsAt w' A n c l :=
  ⟨h.1, h.2.imp id fun ⟨ad, e, hc⟩ => ⟨ad, e, fun j x hx => (World.cell?_of_block (by rw [add_block]; exact k (fun e => by rw [e] at hx; simp at hx) ad e)).trans (hc j x hx)⟩⟩
theorem IntsAt.lt {w : World} {ad : Addr} {n c : Nat} {l : List Int} (h : IntsAt w (some ad) n c l) (hl : l ≠ []) : ad.block < w.heap.size := by
  rcases h.2 with ⟨h, _⟩ | ⟨ad', e, hc⟩
  · cases h
  · injection e with e
    subst e
    cases l with
    | nil => exact absurd rfl hl
    | cons x r =>
      have := World.block_lt_of_cell? w _ (hc 0 x rfl)
      rwa [add_block] at this
theorem IntsAt.keep {w w' : World} {A : Option Addr} {n c : Nat} {l : List Int} (h : IntsAt w A n c l) (g : w.grownBy w' none) : IntsAt w' A n c l :=
  h.to fun hl ad e => by subst e; exact g.block _ (h.lt hl) (by simp)
theorem IntsAt.keepB {w w' : World} {A : Option Addr} {n c B : Nat} {l : List Int} (h : IntsAt w A n c l) (hA : l ≠ [] → ∀ ad, A = some ad → ad.block < B) (g : Below B w w') : IntsAt w' A n c l :=
  h.to fun hl ad e => g.block _ (hA hl ad e)
theorem IntsAt.nil (w : World) : IntsAt w none 0 0 [] := ⟨rfl, .inl ⟨rfl, rfl, rfl⟩⟩
theorem IntsAt.at_ {w : World} {A : Option Addr} {n c : Nat} {l : List Int} (h : IntsAt w A n c l) {k : Nat} (hk : k < l.length) : ∃ ad, A = some ad ∧ w.cell? (ad.add k) = some (.int .i64 (l[k]'hk)) := by
  rcases h.2 with ⟨_, hn, _⟩ | ⟨ad, e, hc⟩
  · have := h.1; omega
  · exact ⟨ad, e, hc k _ (List.getElem?_eq_getElem hk)⟩
theorem IntsAt.cellOf {w : World} {ad : Addr} {n c : Nat} {l : List Int} (h : IntsAt w (some ad) n c l) {q : Nat} {y : Int} (hx : l[q]? = some y) : w.cell? (ad.add q) = some (.int .i64 y) := by
  rcases h.2 with ⟨e, _⟩ | ⟨ad', e, hc⟩
  · cases e
  · injection e with e
    subst e
    exact hc q y hx
/-- The first k of them. -/
theorem IntsAt.take {w : World} {A : Option Addr} {n c : Nat} {l : List Int} (h : IntsAt w A n c l) {k : Nat} (hk : k ≤ l.length) : IntsAt w A k c (l.take k) :=
  ⟨by rw [List.length_take]; omega, by
    rcases h.2 with ⟨e, hn, hc⟩ | ⟨ad, e, hc⟩
    · exact .inl ⟨e, by have := h.1; omega, hc⟩
    · exact .inr ⟨ad, e, fun j x hx => hc j x (by
        rw [List.getElem?_take] at hx
        split at hx
        · exact hx
        · cases hx)⟩⟩
theorem add_none (b o j : Nat) : (⟨b, o, none⟩ : Addr).add j = ⟨b, o + j, none⟩ := by
  unfold Addr.add; split
  · rename_i h; subst h; rfl
  · rfl
theorem IntsAt.new (w : World) (l : List Int) (t : TypeId) (b c : Nat) (cs : Array Value) (hcs : cs.toList = intsV l) (hb : b = w.heap.size) : IntsAt (w.alloc (.cells cs t)) (some ⟨b, 0, none⟩) l.length c l := by
  subst hb
  refine ⟨rfl, .inr ⟨_, rfl, fun j x hx => ?_⟩⟩
  rw [add_none, Nat.zero_add, cell_of_row _ _ _ _ _ _ (heap_alloc_new w _), ← Array.getElem?_toList, hcs]
  simp [intsV, hx]
/-- A block of cells holds the ints. -/
theorem IntsAt.blk {w : World} {l : List Int} {t : TypeId} {b c : Nat} {fz : Nat × Nat} {cs : Array Value} (hb : w.heap[b]? = some (.cells cs t fz)) (hcs : cs.toList.take l.length = intsV l) : IntsAt w (some ⟨b, 0, none⟩) l.length c l := by
  refine ⟨rfl, .inr ⟨_, rfl, fun j x hx => ?_⟩⟩
  rw [add_none, Nat.zero_add, cell_of_row _ _ _ _ _ _ hb, ← Array.getElem?_toList]
  have h1 : (cs.toList.take l.length)[j]? = some (.int .i64 x) := by rw [hcs]; simp [intsV, hx]
  rw [List.getElem?_take] at h1
  split at h1
  · exact h1
  · cases h1
theorem own_keep {w w' : World} {base : Nat} {e : TypeId} {size n : Nat} {v : Value} {xs : List Value} (h : w.ownsRow base e size v n xs) (k : ∀ g, base ≤ g → g < w.heap.size → w'.heap[g]? = w.heap[g]?) : w'.ownsRow base e size v n xs :=
  ⟨h.1, h.2.imp id fun ⟨g, cap, cur, e0, hg, hh, q⟩ => ⟨g, cap, cur, e0, hg, (k g hg (lt_of_heap hh)).trans hh, q⟩⟩
theorem own_gr {w w' : World} {base : Nat} {e : TypeId} {size n : Nat} {v : Value} {xs : List Value} (h : w.ownsRow base e size v n xs) (g : w.grownBy w' none) : w'.ownsRow base e size v n xs :=
  own_keep h fun k _ hk => g.block k hk (by simp)
theorem own_nil (w : World) (base : Nat) (e : TypeId) (size : Nat) : w.ownsRow base e size (.slice none 0 0) 0 [] := ⟨by simp, .inl ⟨rfl, rfl⟩⟩
theorem own_some {w : World} {base n size : Nat} {e : TypeId} {v : Value} {xs : List Value} (h : w.ownsRow base e size v n xs) (hn : 0 < n) : ∃ g c, v = .slice (some ⟨g, 0, none⟩) n c ∧ base ≤ g ∧ g < w.heap.size := by
  rcases h.2 with ⟨_, h0⟩ | ⟨g, c, cur, rfl, hb, hg, _⟩
  · omega
  · exact ⟨g, c, rfl, hb, lt_of_heap hg⟩
theorem own_form {w : World} {B n size : Nat} {e : TypeId} {v : Value} {xs : List Value} (h : w.ownsRow B e size v n xs) : ∃ ad c, v = .slice ad n c ∧ ((ad = none → c = 0) ∧ n ≤ c) ∧ (∀ g, ad = some ⟨g, 0, none⟩ → B ≤ g ∧ g < w.heap.size) := by
  rcases h.2 with ⟨rfl, rfl⟩ | ⟨g, cap, cur, rfl, hb, hh, hnc, _⟩
  · exact ⟨none, 0, rfl, ⟨fun _ => rfl, Nat.le_refl _⟩, fun _ h => by cases h⟩
  · refine ⟨some ⟨g, 0, none⟩, cap, rfl, ⟨(fun h => by cases h), hnc⟩, fun g' h => ?_⟩
    injection h with h
    injection h with h
    exact ⟨by omega, by rw [← h]; exact lt_of_heap hh⟩
theorem own_is {w : World} {B n size : Nat} {e : TypeId} {v : Value} {xs : List Value} (h : w.ownsRow B e size v n xs) : ∀ k, v.ownBlock = some k → B ≤ k := fun k hk => (h.lt k hk).1
theorem IntsAt.of_own {w : World} {base n : Nat} {e : TypeId} {v : Value} {l : List Int} (h : w.ownsRow base e 1 v n (intsV l)) : ∃ A c, v = .slice A n c ∧ IntsAt w A n c l ∧ ∀ ad, A = some ad → base ≤ ad.block := by
  have hn : n = l.length := by have := h.1; rw [intsV_length] at this; omega
  rcases h.2 with ⟨rfl, h0⟩ | ⟨g, cap, cur, rfl, hg, hh, hnc, hcap, hsz, hcur⟩
  · subst h0
    have : l = [] := List.eq_nil_of_length_eq_zero hn.symm
    subst this
    exact ⟨_, _, rfl, .nil w, fun _ h => by cases h⟩
  · subst hn
    exact ⟨_, _, rfl, .blk hh (by rw [← hcur, Nat.mul_one]), fun ad h => by injection h with h; subst h; exact hg⟩
/-- What a call tells that returns the ints l: new ones, or those of A0. -/
def RetInts (w : World) (A0 : Option Addr) (l : List Int) (e : Ending) (w' : World) : Prop :=
  ∃ A n c, e = .returned (.slice A n c) ∧ IntsAt w' A n c l ∧ w.grownBy w' none ∧ ∀ ad, A = some ad → w.heap.size ≤ ad.block ∨ A = A0
theorem RetInts.own {w w' : World} {A0 : Option Addr} {n base : Nat} {e : TypeId} {v : Value} {l : List Int} (h : w'.ownsRow base e 1 v n (intsV l)) (hb : w.heap.size ≤ base) (g : w.grownBy w' none) : RetInts w A0 l (.returned v) w' := by
  obtain ⟨A, c, rfl, hI, hA⟩ := IntsAt.of_own h
  exact ⟨A, n, c, rfl, hI, g, fun ad e => .inl (Nat.le_trans hb (hA ad e))⟩
theorem infoInt : (Try.prog.info? 3).map (fun i => (i.zero, i.size, i.bytes)) = some (some (.int .i64 0), 1, 8) := by kernel_rfl
theorem info_parts {o : Option TypeInfo} {z : Option Value} {s b : Nat} (h : o.map (fun i => (i.zero, i.size, i.bytes)) = some (z, s, b)) : ∃ i, o = some i ∧ i.zero = z ∧ i.size = s ∧ i.bytes = b := by
  cases o with
  | none => cases h
  | some i => simp only [Option.map_some, Option.some.injEq, Prod.mk.injEq] at h; exact ⟨i, rfl, h.1, h.2.1, h.2.2⟩
theorem one_int (w : World) (x : Int) : ∀ j u, [Value.int .i64 x][j]? = some u → (w.alloc (.cells #[.int .i64 x] 3)).cell? ((⟨w.heap.size, 0, none⟩ : Addr).add j) = some u := by
  intro j u hu
  rw [add_none, Nat.zero_add, cell_of_row _ _ _ _ _ _ (heap_alloc_new w _), ← Array.getElem?_toList]
  exact hu
/-- One int more. -/
theorem app_int {w : World} {ops : Array Oper} {rest : List Oper} {o : Oper} {a : Act} {Q : Exit → Act → World → Prop} (hgd : o.guard = none) (s x : Operand)
    (ho : o.op = .call { callee := .builtin .append, args := #[s, x], argTypes := #[27, 27] })
    (base : Nat) (v : Value) (n : Nat) (xs : List Int) (hs : a.eval s = v) (hown : w.ownsRow base 3 1 v n (intsV xs)) (b : Nat) (y : Int) (fz : Nat × Nat)
    (hx : a.eval x = .slice (some ⟨b, 0, none⟩) 1 1) (hb : w.heap[b]? = some (.cells #[.int .i64 y] 3 fz)) (hn : n ≤ 1000000000000) (hbase : base ≤ w.heap.size)
    (h : ∀ v' w', w'.ownsRow base 3 1 v' (n + 1) (intsV (xs ++ [y])) → w.grownBy w' v.ownBlock → wpList Try.prog ops Q rest (a.put o.dst v') w') : wpList Try.prog ops Q (o :: rest) a w := by
  obtain ⟨i0, hi, hz0, hz1, hz2⟩ := info_parts infoInt
  refine wpList_append_own w hgd s x 27 ho base 3 i0 _ 1 8 Try.underlying27 hi hz0 hz1 hz2 rfl (by decide) v n (intsV xs) hs hown ⟨b, 0, none⟩ 1 1 [.int .i64 y] hx rfl ?_ ?_ ?_ ?_ hbase fun v' w' h2 h3 _ => h v' w' ?_ h3
  · intro j u hu
    rw [add_none, Nat.zero_add, cell_of_row _ _ _ _ _ _ hb, ← Array.getElem?_toList]
    exact hu
  · intro u hu; simp at hu; subst hu; rfl
  · unfold maxLen; omega
  · omega
  · rw [intsV_append]; exact h2
theorem gr_own {w w1 w2 : World} {r : Option Nat} (h : w.grownBy w1 none) (g : w1.grownBy w2 r) (hr : ∀ k, r = some k → w.heap.size ≤ k) : w.grownBy w2 none := gr_far h g (Nat.le_refl _) hr

end Go.Proofs.Ytneehdjaaofjaaa
