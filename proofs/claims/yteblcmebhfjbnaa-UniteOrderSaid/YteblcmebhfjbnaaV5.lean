/- Some groups, and some lists, side by side: whose block is whose. -/
import Derived.Test.YteblcmebhfjbnaaVM
import Derived.Test.YteblcmebhfjbnaaV2
namespace Go.Proofs.Yteblcmebhfjbnaa
open Go.RowKit
/-- What is there since w: own k tells whose block k is (none: nobody's, and never turned). -/
structure Wd (w W : World) (own : Nat → Option Nat) (L : List (Nat × List Nat)) : Prop where
  gr : w.grownBy W none
  dom : ∀ k m, own k = some m → w.heap.size ≤ k ∧ k < W.heap.size
  sets : ∀ m E, (m, E) ∈ L → GrpAt W (fun k => own k = some m) m E
structure Ext (W W' : World) (o1 o2 : Nat → Option Nat) : Prop where
  size : W.heap.size ≤ W'.heap.size
  same : ∀ k, k < W.heap.size → o2 k = o1 k
  free : ∀ k, k < W.heap.size → o1 k = none → W'.heap[k]? = W.heap[k]?
theorem Ext.of_gr {W W' : World} {own : Nat → Option Nat} (g : W.grownBy W' none) : Ext W W' own own := ⟨g.size, fun _ _ => rfl, fun k hk _ => g.block k hk (by simp)⟩
theorem Ext.trans {A B C : World} {o1 o2 o3 : Nat → Option Nat} (h : Ext A B o1 o2) (k : Ext B C o2 o3) : Ext A C o1 o3 :=
  ⟨Nat.le_trans h.size k.size, fun i hi => (k.same i (Nat.lt_of_lt_of_le hi h.size)).trans (h.same i hi), fun i hi hn => (k.free i (Nat.lt_of_lt_of_le hi h.size) ((h.same i hi).trans hn)).trans (h.free i hi hn)⟩
theorem Wd.first (w : World) : Wd w w (fun _ => none) [] := ⟨grownBy_refl _ _, fun _ _ h => (by cases h), fun _ _ h => (by cases h)⟩
theorem Wd.keep {w W W' : World} {own : Nat → Option Nat} {L : List (Nat × List Nat)} (h : Wd w W own L) (g : W.grownBy W' none) : Wd w W' own L :=
  ⟨grownBy_trans h.gr g, fun k m e => ⟨(h.dom k m e).1, Nat.lt_of_lt_of_le (h.dom k m e).2 g.size⟩, fun m E hm => (h.sets m E hm).gr g⟩
theorem Wd.sub {w W : World} {own : Nat → Option Nat} {L M : List (Nat × List Nat)} (h : Wd w W own L) (k : ∀ x ∈ M, x ∈ L) : Wd w W own M := ⟨h.gr, h.dom, fun m E hm => h.sets m E (k _ hm)⟩
theorem Wd.lt {w W : World} {own : Nat → Option Nat} {L : List (Nat × List Nat)} (h : Wd w W own L) {m : Nat} {E : List Nat} (hm : (m, E) ∈ L) : m < W.heap.size := (h.sets m E hm).lt m (h.sets m E hm).own
/-- A list that no set owns. -/
def Ls (W : World) (own : Nat → Option Nat) (A : Option Addr) (n c : Nat) (l : List Int) : Prop := IntsAt W A n c l ∧ (l ≠ [] → ∀ ad, A = some ad → own ad.block = none)
theorem Ls.ext {W W' : World} {own own' : Nat → Option Nat} {A : Option Addr} {n c : Nat} {l : List Int} (h : Ls W own A n c l) (x : Ext W W' own own') : Ls W' own' A n c l :=
  ⟨h.1.to fun hl ad e => by
    have := h.1
    subst e
    exact x.free _ (this.lt hl) (h.2 hl ad rfl), fun hl ad e => by
    have := h.1
    subst e
    exact (x.same _ (this.lt hl)).trans (h.2 hl ad rfl)⟩
theorem Ls.keep {W W' : World} {own : Nat → Option Nat} {A : Option Addr} {n c : Nat} {l : List Int} (h : Ls W own A n c l) (g : W.grownBy W' none) : Ls W' own A n c l := h.ext (Ext.of_gr g)
theorem Ls.nil (W : World) (own : Nat → Option Nat) : Ls W own none 0 0 [] := ⟨.nil W, fun h => absurd rfl h⟩
/-- A list of the arguments. -/
theorem Ls.arg {w W : World} {own : Nat → Option Nat} {L : List (Nat × List Nat)} {A : Option Addr} {n c : Nat} {l : List Int} (h : Wd w W own L) (hI : IntsAt w A n c l) : Ls W own A n c l :=
  ⟨hI.keep h.gr, fun hl ad e => by
    subst e
    have h1 := hI.lt hl
    cases ho : own ad.block with
    | none => rfl
    | some m => have := (h.dom _ m ho).1; omega⟩
/-- A list that has just been made, or is that of A0. -/
theorem Ls.made {w W W' : World} {own : Nat → Option Nat} {L : List (Nat × List Nat)} {A : Option Addr} {n c : Nat} {l : List Int} (h : Wd w W own L) (hI : IntsAt W' A n c l) (hA : ∀ ad, A = some ad → W.heap.size ≤ ad.block ∨ A = none) : Ls W' own A n c l :=
  ⟨hI, fun _ ad e => by
    rcases hA ad e with h1 | h1
    · cases ho : own ad.block with
      | none => rfl
      | some m => have := (h.dom _ m ho).2; omega
    · rw [h1] at e; cases e⟩
theorem Ls.made2 {w W W' : World} {own : Nat → Option Nat} {L : List (Nat × List Nat)} {A A0 : Option Addr} {n c n0 c0 : Nat} {l l0 : List Int} (h : Wd w W own L) (h0 : Ls W own A0 n0 c0 l0) (hI : IntsAt W' A n c l) (hA : ∀ ad, A = some ad → W.heap.size ≤ ad.block ∨ (A = A0 ∧ l = l0)) : Ls W' own A n c l :=
  ⟨hI, fun hne ad e => by
    rcases hA ad e with h1 | h1
    · cases ho : own ad.block with
      | none => rfl
      | some m => have := (h.dom _ m ho).2; omega
    · exact h0.2 (fun e0 => hne (h1.2.trans e0)) ad (h1.1 ▸ e)⟩
open Classical in
/-- Whose is what, where F is m's from now on. -/
noncomputable def ownUp (W : World) (own : Nat → Option Nat) (F : Nat → Prop) (m : Nat) : Nat → Option Nat := fun k => if k < W.heap.size then own k else if F k then some m else none
theorem ownUp_old {W : World} {own : Nat → Option Nat} {F : Nat → Prop} {m k : Nat} (h : k < W.heap.size) : ownUp W own F m k = own k := if_pos h
theorem ownUp_new {W : World} {own : Nat → Option Nat} {F : Nat → Prop} {m k q : Nat} (h : ¬ k < W.heap.size) (e : ownUp W own F m k = some q) : q = m ∧ F k := by
  unfold ownUp at e
  rw [if_neg h] at e
  split at e
  · injection e with e; exact ⟨e.symm, by assumption⟩
  · cases e
theorem ownUp_of {W : World} {own : Nat → Option Nat} {F : Nat → Prop} {m k : Nat} (h : ¬ k < W.heap.size) (e : F k) : ownUp W own F m k = some m := by
  unfold ownUp
  rw [if_neg h, if_pos e]
theorem Wd.upd {w W W' : World} {own : Nat → Option Nat} {R : List (Nat × List Nat)} {m : Nat} {E E' : List Nat} (h : Wd w W own ((m, E) :: R)) (hR : ∀ x ∈ R, x.1 ≠ m) (u : Upd W W' (fun k => own k = some m) m E') :
    ∃ own', Wd w W' own' ((m, E') :: R) ∧ Ext W W' own own' := by
  obtain ⟨F', hs, ht, hF⟩ := u
  refine ⟨ownUp W own F' m, ⟨⟨ht.os.trans h.gr.os, ht.tape.trans h.gr.tape, ht.output.trans h.gr.output, Nat.le_trans h.gr.size ht.size, fun k hk _ => ?_⟩, fun k q e => ?_, fun q D hq => ?_⟩, ⟨ht.size, fun k hk => ownUp_old hk, fun k hk hn => ht.block k hk (by rw [hn]; simp)⟩⟩
  · exact (ht.block k (Nat.lt_of_lt_of_le hk h.gr.size) fun e => by have := (h.dom k m e).1; omega).trans (h.gr.block k hk (by simp))
  · by_cases hk : k < W.heap.size
    · rw [ownUp_old hk] at e
      exact ⟨(h.dom k q e).1, Nat.lt_of_lt_of_le (h.dom k q e).2 ht.size⟩
    · exact ⟨by have := h.gr.size; omega, hs.lt k (ownUp_new hk e).2⟩
  · rcases List.mem_cons.1 hq with e | hq
    · injection e with e1 e2
      subst e1 e2
      refine hs.mono (fun i hi => ?_) fun i hi => ?_
      · by_cases hk : i < W.heap.size
        · rw [ownUp_old hk]
          exact (hF i hi).resolve_right (by omega)
        · exact ownUp_of hk hi
      · by_cases hk : i < W.heap.size
        · exact Nat.lt_of_lt_of_le hk ht.size
        · exact hs.lt i (ownUp_new hk hi).2
    · have h1 := h.sets q D (List.mem_cons_of_mem _ hq)
      have h2 := hR _ hq
      refine (h1.keep (fun i hi => ht.block i (h1.lt i hi) fun e => h2 (by rw [hi] at e; injection e)) ht.size).mono (fun i hi => ?_) fun i hi => ?_
      · rw [ownUp_old (h1.lt i hi)]
        exact hi
      · by_cases hk : i < W.heap.size
        · exact Nat.lt_of_lt_of_le hk ht.size
        · exact absurd (ownUp_new hk hi).1 h2
theorem Wd.made {w W W' : World} {own : Nat → Option Nat} {L : List (Nat × List Nat)} {m : Nat} {E : List Nat} {F : Nat → Prop} (h : Wd w W own L) (hs : GrpAt W' F m E) (g : W.grownBy W' none) (hF : ∀ k, F k → W.heap.size ≤ k) :
    ∃ own', Wd w W' own' ((m, E) :: L) ∧ Ext W W' own own' ∧ W.heap.size ≤ m ∧ ∀ x ∈ L, x.1 ≠ m := by
  have hm := hF m hs.own
  have hL : ∀ x ∈ L, x.1 ≠ m := fun x hx e => by have := h.lt (m := x.1) (E := x.2) hx; omega
  refine ⟨ownUp W own F m, ⟨grownBy_trans h.gr g, fun k q e => ?_, fun q D hq => ?_⟩, ⟨g.size, fun k hk => ownUp_old hk, fun k hk _ => g.block k hk (by simp)⟩, hm, hL⟩
  · by_cases hk : k < W.heap.size
    · rw [ownUp_old hk] at e
      exact ⟨(h.dom k q e).1, Nat.lt_of_lt_of_le (h.dom k q e).2 g.size⟩
    · exact ⟨by have := h.gr.size; omega, hs.lt k (ownUp_new hk e).2⟩
  · rcases List.mem_cons.1 hq with e | hq
    · injection e with e1 e2
      subst e1 e2
      refine hs.mono (fun i hi => ownUp_of (by have := hF i hi; omega) hi) fun i hi => ?_
      by_cases hk : i < W.heap.size
      · exact Nat.lt_of_lt_of_le hk g.size
      · exact hs.lt i (ownUp_new hk hi).2
    · have h1 := h.sets q D hq
      refine (h1.gr g).mono (fun i hi => ?_) fun i hi => ?_
      · show ownUp W own F m i = some q
        rw [ownUp_old (h1.lt i hi)]
        exact hi
      · by_cases hk : i < W.heap.size
        · exact Nat.lt_of_lt_of_le hk g.size
        · exact absurd (ownUp_new hk hi).1 (hL _ hq)
/-! The calls. -/
theorem wg_new {w W : World} {own : Nat → Option Nat} {L : List (Nat × List Nat)} (n : Int) (h : Wd w W own L) :
    Calls Try.prog 10 #[.int .i64 n] W fun e w' => ∃ m own', e = .returned (.pointer (some ⟨m, 0, none⟩)) ∧ Wd w w' own' ((m, List.range (szN n)) :: L) ∧ Ext W w' own own' ∧ W.heap.size ≤ m ∧ ∀ x ∈ L, x.1 ≠ m :=
  (New14 n W).mono fun e w' ⟨m, _, h1, h2, h3, h4⟩ => by
    obtain ⟨own', k⟩ := h.made h2 h3 h4
    exact ⟨m, own', h1, k⟩
theorem wg_find {w W : World} {own : Nat → Option Nat} {R : List (Nat × List Nat)} {m : Nat} {g : List Nat} (i : Int) (h : Wd w W own ((m, g) :: R)) (hR : ∀ x ∈ R, x.1 ≠ m) :
    Calls Try.prog 14 #[.pointer (some ⟨m, 0, none⟩), .int .i64 i] W fun e w' => e = .returned (.int .i64 (findI g i)) ∧ ∃ own', Wd w w' own' ((m, g) :: R) ∧ Ext W w' own own' :=
  (Find14 _ m g i W (h.sets m g (by simp))).mono fun e w' ⟨h1, h2⟩ => ⟨h1, h.upd hR h2⟩
theorem wg_join {w W : World} {own : Nat → Option Nat} {R : List (Nat × List Nat)} {m : Nat} {g : List Nat} (a b : Int) (h : Wd w W own ((m, g) :: R)) (hR : ∀ x ∈ R, x.1 ≠ m) :
    Calls Try.prog 13 #[.pointer (some ⟨m, 0, none⟩), .int .i64 a, .int .i64 b] W fun e w' => e = .returned (.bool (joinG g a b).2) ∧ ∃ own', Wd w w' own' ((m, (joinG g a b).1) :: R) ∧ Ext W w' own own' :=
  (Join14 _ m g a b W (h.sets m g (by simp))).mono fun e w' ⟨h1, h2⟩ => ⟨h1, h.upd hR h2⟩
theorem wg_size {w W : World} {own : Nat → Option Nat} {R : List (Nat × List Nat)} {m : Nat} {g : List Nat} (i : Int) (h : Wd w W own ((m, g) :: R)) (hR : ∀ x ∈ R, x.1 ≠ m) :
    Calls Try.prog 19 #[.pointer (some ⟨m, 0, none⟩), .int .i64 i] W fun e w' => e = .returned (.int .i64 (sizI g i)) ∧ ∃ own', Wd w w' own' ((m, g) :: R) ∧ Ext W w' own own' :=
  (Size14 _ m g i W (h.sets m g (by simp))).mono fun e w' ⟨h1, h2⟩ => ⟨h1, h.upd hR h2⟩
theorem wg_count {w W : World} {own : Nat → Option Nat} {L : List (Nat × List Nat)} {m : Nat} {g : List Nat} (h : Wd w W own L) (hm : (m, g) ∈ L) :
    Calls Try.prog 17 #[.pointer (some ⟨m, 0, none⟩)] W fun e w' => e = .returned (.int .i64 (cntG g)) ∧ W.grownBy w' none := Count14 _ m g W (h.sets m g hm)
theorem wg_len {w W : World} {own : Nat → Option Nat} {L : List (Nat × List Nat)} {m : Nat} {g : List Nat} (h : Wd w W own L) (hm : (m, g) ∈ L) :
    Calls Try.prog 16 #[.pointer (some ⟨m, 0, none⟩)] W fun e w' => e = .returned (.int .i64 g.length) ∧ W.grownBy w' none := Len14 _ m g W (h.sets m g hm)
theorem mem0 {α : Type} {x : α} {r : List α} : x ∈ x :: r := List.mem_cons_self
theorem mem1 {α : Type} {x y : α} {r : List α} : x ∈ y :: x :: r := List.mem_cons_of_mem _ mem0
theorem Wd.ok {w W : World} {own : Nat → Option Nat} {L : List (Nat × List Nat)} {m : Nat} {g : List Nat} (h : Wd w W own L) (hm : (m, g) ∈ L) : GOk g ∧ g.length ≤ 100000 := (h.sets m g hm).ok

end Go.Proofs.Yteblcmebhfjbnaa
