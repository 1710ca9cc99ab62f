/- What Order's loops keep in memory. -/
import Derived.Test.YtneehdjaaofjaaaEs
import Derived.Test.YtneehdjaaofjaaaEr
import Derived.Test.YtneehdjaaofjaaaE7
namespace Go.Proofs.Ytneehdjaaofjaaa
open Go.RowKit
structure OrM (w0 : World) (m b N : Nat) (v u : Value) (B Z T : List Int) (W : World) : Prop where
  made ::
  hp : Heap W m v B
  zo : OwN 0 W (.slice (some ⟨b, 0, none⟩) N N) Z
  uo : OwN 0 W u T
  vb : ∀ k, v.ownBlock = some k → m < k
  ub : ∀ k, u.ownBlock = some k → m < k ∧ v.ownBlock ≠ some k
  keep : ∀ k, k < m → k ≠ b → W.heap[k]? = w0.heap[k]?
  os : W.os = w0.os
  tape : W.tape = w0.tape
  output : W.output = w0.output
  size : m < W.heap.size
theorem OrM.hpT {w0 : World} {m b N : Nat} {v v' u : Value} {B B' Z T : List Int} {W W' : World} (h : OrM w0 m b N v u B Z T W) (hb : b < m) (k : Heap W' m v' B') (t : HpT W W' m v v') : OrM w0 m b N v' u B' Z T W' := by
  have hs := h.size
  refine ⟨k, h.zo.to fun g e => ?_, h.uo.to fun g e => ?_, fun q hq => ?_, fun q hq => ⟨(h.ub q hq).1, fun e => ?_⟩, fun q hq hqb => (t.block q (by omega) (by omega) (fun e => by have := h.vb q e; omega)).trans (h.keep q hq hqb), t.os.trans h.os, t.tape.trans h.tape, t.output.trans h.output, Nat.lt_of_lt_of_le hs t.size⟩
  · have e : b = g := by injection e
    subst e
    exact t.block b (by omega) (by omega) (fun e => by have := h.vb b e; omega)
  · exact t.block g (h.uo.lt g e).2 (by have := (h.ub g e).1; omega) (h.ub g e).2
  · rcases t.own q hq with h1 | h1
    · exact h.vb q h1
    · omega
  · rcases t.own q e with h1 | h1
    · exact (h.ub q hq).2 h1
    · have := (h.uo.lt q hq).2
      omega
theorem OrM.gr {w0 : World} {m b N : Nat} {v u : Value} {B Z T : List Int} {W W' : World} (h : OrM w0 m b N v u B Z T W) (g : W.grownBy W' none) : OrM w0 m b N v u B Z T W' :=
  ⟨⟨h.hp.at_.gr g, h.hp.hp⟩, h.zo.gr g, h.uo.gr g, h.vb, h.ub, fun k hk hb => (g.block k (Nat.lt_trans hk h.size) (by simp)).trans (h.keep k hk hb), g.os.trans h.os, g.tape.trans h.tape, g.output.trans h.output, Nat.lt_of_lt_of_le h.size g.size⟩
theorem OrM.setZ {w0 : World} {m b N : Nat} {v u : Value} {B Z T : List Int} {W : World} (h : OrM w0 m b N v u B Z T W) (hb : b < m) (hZ : Z.length = N) (j : Nat) (z : Int) : OrM w0 m b N v u B (Z.set j z) T (W.setCell ⟨b, j, none⟩ (.int .i64 z)) := by
  obtain ⟨h1, g⟩ := h.zo.set hZ.symm j z
  have hne : ∀ q, q ≠ b → q < W.heap.size → (W.setCell ⟨b, j, none⟩ (.int .i64 z)).heap[q]? = W.heap[q]? := fun q hq hl => g.block q hl (by intro e; injection e with e; exact hq e)
  have hs := h.size
  refine ⟨⟨⟨(hne m (by omega) hs).trans h.hp.at_.box, h.hp.at_.own.to fun q e => hne q (by have := h.vb q e; omega) (h.hp.at_.own.lt q e).2⟩, h.hp.hp⟩, h1, h.uo.to fun q e => hne q (by have := (h.ub q e).1; omega) (h.uo.lt q e).2, h.vb, h.ub, fun k hk hb' => (hne k hb' (by omega)).trans (h.keep k hk hb'), g.os.trans h.os, g.tape.trans h.tape, g.output.trans h.output, Nat.lt_of_lt_of_le hs g.size⟩
theorem OrM.app {w0 : World} {m b N : Nat} {v u u' : Value} {B Z T T' : List Int} {W W' : World} (h : OrM w0 m b N v u B Z T W) (hb : b < m) (ho : OwN 0 W' u' T') (g : W.grownBy W' u.ownBlock) (hbk : ∀ k, u'.ownBlock = some k → u.ownBlock = some k ∨ W.heap.size ≤ k) : OrM w0 m b N v u' B Z T' W' := by
  have hs := h.size
  have hne : ∀ q, q < W.heap.size → u.ownBlock ≠ some q → W'.heap[q]? = W.heap[q]? := fun q hl hq => g.block q hl (fun e => hq e.symm)
  have hvu : ∀ q, v.ownBlock = some q → u.ownBlock ≠ some q := fun q e e2 => (h.ub q e2).2 e
  refine ⟨⟨⟨(hne m hs (fun e => by have := (h.ub m e).1; omega)).trans h.hp.at_.box, h.hp.at_.own.to fun q e => hne q (h.hp.at_.own.lt q e).2 (hvu q e)⟩, h.hp.hp⟩, h.zo.to fun q e => ?_, ho, h.vb, fun q e => ?_, fun k hk hb' => (hne k (by omega) (fun e => by have := (h.ub k e).1; omega)).trans (h.keep k hk hb'), g.os.trans h.os, g.tape.trans h.tape, g.output.trans h.output, Nat.lt_of_lt_of_le hs g.size⟩
  · have e : b = q := by injection e
    subst e
    exact hne b (by omega) (fun e => by have := (h.ub b e).1; omega)
  · rcases hbk q e with h1 | h1
    · exact h.ub q h1
    · exact ⟨by omega, fun e2 => by have := (h.hp.at_.own.lt q e2).2; omega⟩

theorem OrM.first {w0 : World} {b base N : Nat} {Z : List Int} (hz : OwN base w0 (.slice (some ⟨b, 0, none⟩) N N) Z) : OrM w0 w0.heap.size b N (.slice none 0 0) (.slice none 0 0) [] Z [] (w0.alloc (.cells #[.slice none 0 0] 49)) := by
  have g := gr_alloc (grownBy_refl w0 none) (.cells #[.slice none 0 0] 49)
  have h := hz.gr g
  exact ⟨Heap.first (heap_alloc_new w0 _), ⟨h.1, h.2.imp id fun ⟨q, cap, cur, e0, _, qq⟩ => ⟨q, cap, cur, e0, Nat.zero_le _, qq⟩⟩, OwN.nil _ _, fun k hk => (by cases hk), fun k hk => (by cases hk), fun k hk _ => g.block k hk (by simp), g.os, g.tape, g.output, by simp⟩
theorem OrM.ints {w0 : World} {m b N : Nat} {v u : Value} {B Z T : List Int} {W : World} (h : OrM w0 m b N v u B Z T W) {A : Option Addr} {n c B0 : Nat} {l : List Int} (hI : IntsAt w0 A n c l) (hA : ∀ ad, A = some ad → l ≠ [] → ad.block < B0) (hb : B0 ≤ b) (hm : b < m) : IntsAt W A n c l :=
  hI.to fun hl ad e => by
    have := hA ad e hl
    exact h.keep _ (by omega) (by omega)
theorem RdI.zero (Q : List Int) (D : List Nat) (f : Nat → Nat) : RdI 0 Q D f [] := ⟨by simp, fun x => ⟨fun h => (by cases h), fun ⟨v, _, h, _⟩ => absurd h (Nat.not_lt_zero _)⟩⟩
theorem RdI.more {q : Nat} {Q : List Int} {f : Nat → Nat} {B B' : List Int} (h : RdI q Q [] f B) (hQ : Q[q]? = some (q : Int)) (hf : f q = 0) (hp : B'.Perm (B ++ [(q : Int)])) : RdI (q + 1) Q [] f B' := by
  refine RdI.perm ⟨?_, fun x => ?_⟩ hp
  · rw [List.nodup_append]
    refine ⟨h.nd, by simp, fun a ha b hb e => ?_⟩
    rw [List.mem_singleton] at hb
    subst e hb
    obtain ⟨v, e, hv, _⟩ := (h.mem _).1 ha
    omega
  · rw [List.mem_append, List.mem_singleton, h.mem]
    constructor
    · rintro (⟨v, rfl, h1, h2⟩ | rfl)
      · exact ⟨v, rfl, by omega, h2⟩
      · exact ⟨q, rfl, by omega, hQ, by simp, hf⟩
    · rintro ⟨v, rfl, h1, h2, h3, h4⟩
      by_cases e : v = q
      · exact .inr (by rw [e])
      · exact .inl ⟨v, rfl, by omega, h2, h3, h4⟩
theorem RdI.skip {q : Nat} {Q : List Int} {f : Nat → Nat} {B : List Int} (h : RdI q Q [] f B) (hn : ¬ (Q[q]? = some (q : Int) ∧ f q = 0)) : RdI (q + 1) Q [] f B := ⟨h.nd, fun x => by
  rw [h.mem]
  constructor
  · rintro ⟨v, rfl, h1, h2⟩
    exact ⟨v, rfl, by omega, h2⟩
  · rintro ⟨v, rfl, h1, h2, h3, h4⟩
    by_cases e : v = q
    · subst e
      exact absurd ⟨h2, h4⟩ hn
    · exact ⟨v, rfl, by omega, h2, h3, h4⟩⟩

theorem OrM.newU {w0 : World} {m b N : Nat} {v u : Value} {B Z T : List Int} {W : World} (h : OrM w0 m b N v u B Z T W) : OrM w0 m b N v (.slice (some ⟨W.heap.size, 0, none⟩) 0 0) B Z [] (W.alloc (.cells #[] 3)) := by
  have g := gr_alloc (grownBy_refl W none) (.cells #[] 3)
  have h' := h.gr g
  refine ⟨h'.hp, h'.zo, ?_, h'.vb, fun k hk => ?_, h'.keep, h'.os, h'.tape, h'.output, h'.size⟩
  · have := own_made W
    exact ⟨this.1, this.2.imp id fun ⟨q, cap, cur, e0, _, qq⟩ => ⟨q, cap, cur, e0, Nat.zero_le _, qq⟩⟩
  · have hk : W.heap.size = k := by injection hk
    subst hk
    exact ⟨h.size, fun e => by have := (h.hp.at_.own.lt _ e).2; omega⟩
theorem RdI.len {N : Nat} {Q : List Int} {D : List Nat} {f : Nat → Nat} {B : List Int} (h : RdI N Q D f B) : B.length ≤ N := by
  have h1 : (B.map Int.toNat).Nodup := by
    unfold List.Nodup
    rw [List.pairwise_map]
    refine List.Pairwise.imp_of_mem (fun {a b} ha hb hne e => ?_) h.nd
    obtain ⟨u, rfl, _⟩ := (h.mem _).1 ha
    obtain ⟨v, rfl, _⟩ := (h.mem _).1 hb
    exact hne (by omega)
  have h2 := nodup_len h1 (N := N) (fun x hx => by
    obtain ⟨y, hy, rfl⟩ := List.mem_map.1 hx
    obtain ⟨u, rfl, hu, _⟩ := (h.mem _).1 hy
    omega)
  rwa [List.length_map] at h2
theorem OwN.up {base : Nat} {W : World} {v : Value} {l : List Int} (h : OwN 0 W v l) (k : ∀ g, v.ownBlock = some g → base ≤ g) : OwN base W v l :=
  ⟨h.1, h.2.imp id fun ⟨g, cap, cur, e0, _, qq⟩ => ⟨g, cap, cur, e0, k g (by rw [e0]; rfl), qq⟩⟩
theorem remN_le {H : List (List Int)} {K : Nat} (hS : Short K H) (D : List Nat) (j : Nat) : ∀ n, remN H D j n ≤ n * K
  | 0 => by simp [remN]
  | n + 1 => by
    have ih := remN_le hS D j n
    rw [remN, Nat.add_mul]
    by_cases e : n ∈ D
    · rw [if_pos e]
      omega
    · rw [if_neg e]
      rcases hr : H[n]? with _ | row
      · simp
        omega
      · have h1 := hS n row hr
        have h2 : row.count (j : Int) ≤ row.length := List.count_le_length
        show remN H D j n + row.count (j : Int) ≤ n * K + 1 * K
        omega

end Go.Proofs.Ytneehdjaaofjaaa
