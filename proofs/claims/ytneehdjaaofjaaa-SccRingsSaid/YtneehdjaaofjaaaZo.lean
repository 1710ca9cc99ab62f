/- Numbers of the call's own. -/
import Derived.Test.YtneehdjaaofjaaaZ0
namespace Go.Proofs.Ytneehdjaaofjaaa
open Go.RowKit
/-- A slice of the call's own that holds the numbers l. -/
def OwN (base : Nat) (W : World) (v : Value) (l : List Int) : Prop := W.ownsRow base 3 1 v l.length (intsV l)
theorem OwN.nil (base : Nat) (W : World) : OwN base W (.slice none 0 0) [] := own_nil _ _ _ _
theorem OwN.gr {base : Nat} {W W' : World} {v : Value} {l : List Int} (h : OwN base W v l) (g : W.grownBy W' none) : OwN base W' v l := own_gr h g
theorem OwN.row {base : Nat} {W W' : World} {v : Value} {l : List Int} (h : OwN base W v l) {o : Option Nat} (g : W.grownBy W' o) (hr : v.ownBlock = none ∨ v.ownBlock ≠ o) : OwN base W' v l := World.ownsRow.kept h g hr
theorem OwN.lt {base : Nat} {W : World} {v : Value} {l : List Int} (h : OwN base W v l) : ∀ k, v.ownBlock = some k → base ≤ k ∧ k < W.heap.size := World.ownsRow.lt h
theorem OwN.ints {base : Nat} {W : World} {v : Value} {l : List Int} (h : OwN base W v l) : ∃ A c, v = .slice A l.length c ∧ IntsAt W A l.length c l ∧ ∀ ad, A = some ad → base ≤ ad.block := IntsAt.of_own h
theorem OwN.ne {base b : Nat} {W : World} {v : Value} {l : List Int} {cs : Array Value} {t : TypeId} {fz : Nat × Nat} (h : OwN base W v l) (hb : W.heap[b]? = some (.cells cs t fz)) (ht : t ≠ 3) : some b ≠ v.ownBlock := by
  intro e
  rcases h.2 with ⟨rfl, _⟩ | ⟨g, cap, cur, rfl, _, hg, _⟩
  · cases e
  · injection e with e
    have e : b = g := e
    subst e
    rw [hb] at hg
    injection hg with hg
    injection hg with _ h2 _
    exact ht h2
/-- One number more. -/
theorem app_one {w : World} {ops : Array Oper} {rest : List Oper} {o : Oper} {a : Act} {Q : Exit → Act → World → Prop} (hgd : o.guard = none) (s x : Operand)
    (ho : o.op = .call { callee := .builtin .append, args := #[s, x], argTypes := #[27, 27] })
    (base : Nat) (v : Value) (L : List Int) (hs : a.eval s = v) (hown : OwN base w v L) (b : Nat) (y : Int) (fz : Nat × Nat)
    (hx : a.eval x = .slice (some ⟨b, 0, none⟩) 1 1) (hb : w.heap[b]? = some (.cells #[.int .i64 y] 3 fz)) (hn : L.length ≤ 1000000000000) (hbase : base ≤ w.heap.size)
    (h : ∀ v' w', Hid (OwN base w' v' (L ++ [y])) → Hid (w.grownBy w' v.ownBlock) → wpList Try.prog ops Q rest (a.put o.dst v') w') : wpList Try.prog ops Q (o :: rest) a w :=
  app_int hgd s x ho base v L.length L hs hown b y fz hx hb hn hbase fun v' w' h1 h2 => h v' w' (show OwN base w' v' (L ++ [y]) by unfold OwN; rw [List.length_append]; exact h1) h2

end Go.Proofs.Ytneehdjaaofjaaa
