/- mem: the laws' state: a memory of the call's own; shown. -/
import Derived.Test.YtblhnjoophhliaaM12
namespace Go.Proofs.Ytblhnjoophhliaa
open Go.RowKit
/-- All but the memory's own blocks (and what is new) is as it was. -/
def Keep (W W' : World) (L : List (Nat × Blk)) : Prop :=
  W.heap.size ≤ W'.heap.size ∧ ∀ k cs t, W.heap[k]? = some (.cells cs t (0, 0)) → t ≠ 73 → t ≠ 76 → (t = 67 → ∀ x ∈ L, x.1 ≠ k) → W'.heap[k]? = W.heap[k]?
theorem Keep.of_gr {W W' : World} {L : List (Nat × Blk)} (h : W.grownBy W' none) : Keep W W' L := ⟨h.size, fun k cs t hk _ _ _ => h.block k (lt_of_heap hk) (by simp)⟩
theorem Keep.of_fr {W W' : World} {B a : Nat} {row : Value} {L : List (Nat × Blk)} (h : MemAt W B a row L) (f : Fr W W' a row L) : Keep W W' L := by
  refine ⟨f.size, fun k cs t hk h1 h2 h3 => f.block k (lt_of_heap hk) ?_⟩
  rintro (rfl | e | ⟨x, hx, rfl⟩)
  · have e := h.head.symm.trans hk
    injection e with e
    injection e with _ e
    exact h1 e.symm
  · rcases h.rows.2 with ⟨e1, _⟩ | ⟨g, cap, cur, e1, hg, hh, r⟩
    · rw [e1] at e; simp [Value.ownBlock] at e
    · rw [e1] at e; simp [Value.ownBlock] at e; subst e
      have e := hh.symm.trans hk
      injection e with e
      injection e with _ e
      exact h2 e.symm
  · have e := (show W.heap[x.1]? = _ from (h.bytes x hx).1).symm.trans hk
    injection e with e
    injection e with _ e
    exact h3 e.symm x hx rfl
theorem Keep.trans {a b c : World} {L : List (Nat × Blk)} (h : Keep a b L) (k : Keep b c L) : Keep a c L :=
  ⟨Nat.le_trans h.1 k.1, fun i cs t hi h1 h2 h3 => (k.2 i cs t ((h.2 i cs t hi h1 h2 h3).trans hi) h1 h2 h3).trans (h.2 i cs t hi h1 h2 h3)⟩
theorem VBox.keep {W W' : World} {L : List (Nat × Blk)} {b : Nat} {v : Val} (h : VBox W b v) (k : Keep W W' L) : VBox W' b v := (k.2 b _ _ h (by decide) (by decide) (fun e => absurd e (by decide))).trans h
theorem BytesAt.keep {W W' : World} {L : List (Nat × Blk)} {b : Nat} {M : List Byt} (h : BytesAt W b M) (k : Keep W W' L) (hb : ∀ x ∈ L, x.1 ≠ b) : BytesAt W' b M := (k.2 b _ _ h (by decide) (by decide) (fun _ => hb)).trans h
/-- A memory of the call's own. -/
structure St (w W : World) (a : Nat) (L : List (Nat × Blk)) : Prop where
  mem : ∃ row, MemAt W w.heap.size a row L
  gr : w.grownBy W none
theorem St.gr' {w W W' : World} {a : Nat} {L : List (Nat × Blk)} (h : St w W a L) (g : W.grownBy W' none) : St w W' a L :=
  ⟨by obtain ⟨row, hm⟩ := h.mem; exact ⟨row, hm.gr g⟩, grownBy_trans h.gr g⟩
theorem foot_own {w W : World} {a : Nat} {row : Value} {L : List (Nat × Blk)} (h : MemAt W w.heap.size a row L) {k : Nat} (hk : Foot a row L k) : w.heap.size ≤ k := by
  rcases hk with rfl | e | ⟨x, hx, rfl⟩
  · exact h.base
  · rcases h.rows.2 with ⟨e1, _⟩ | ⟨g, cap, cur, e1, hg, hh, r⟩
    · rw [e1] at e; simp [Value.ownBlock] at e
    · rw [e1] at e; simp [Value.ownBlock] at e; subst e; exact hg
  · exact (h.bytes x hx).2.1
theorem gr_fr {w W W' : World} {a : Nat} {row : Value} {L : List (Nat × Blk)} (h : MemAt W w.heap.size a row L) (g : w.grownBy W none) (f : Fr W W' a row L) : w.grownBy W' none :=
  ⟨f.os.trans g.os, f.tape.trans g.tape, f.output.trans g.output, Nat.le_trans g.size f.size, fun k hk _ => (f.block k (Nat.lt_of_lt_of_le hk g.size) (fun e => by have := foot_own h e; omega)).trans (g.block k hk (by simp))⟩
theorem St.new (w W : World) (g : w.grownBy W none) : St w (W.alloc (.cells #[.slice none 0 0] 73)) W.heap.size [] := ⟨⟨_, MemAt.new W g.size⟩, gr_alloc g _⟩
theorem alloc_st {w W : World} {a : Nat} {L : List (Nat × Blk)} (site size : Int) (z : Bool) (h : St w W a L) :
    Calls Try.prog 13 #[.pointer (some ⟨a, 0, none⟩), .int .i64 site, .int .i64 size, .bool z] W fun e w' => e = .returned (.tuple #[.int .i64 (allocP L W.heap.size site size z).2.1, .int .i64 (allocP L W.heap.size site size z).2.2]) ∧ St w w' a (allocP L W.heap.size site size z).1 ∧ Keep W w' L := by
  obtain ⟨row, hm⟩ := h.mem
  exact (alloc_any site size z W hm).mono fun e w' ⟨he, row', h1, h2⟩ => ⟨he, ⟨⟨row', h1⟩, gr_fr hm h.gr h2⟩, Keep.of_fr hm h2⟩
theorem load_st {w W : World} {a : Nat} {L : List (Nat × Blk)} (p : Val) (n : Int) (h : St w W a L) :
    Calls Try.prog 17 #[.pointer (some ⟨a, 0, none⟩), valV p, .int .i64 n] W fun e w' => e = .returned (.tuple #[valV (loadP L p n).1, .int .i64 (loadP L p n).2]) ∧ St w w' a L ∧ W.grownBy w' none := by
  obtain ⟨row, hm⟩ := h.mem
  exact (load_any p n W hm).mono fun e w' ⟨he, h1⟩ => ⟨he, h.gr' h1, h1⟩
theorem store_st {w W : World} {a : Nat} {L : List (Nat × Blk)} (p v : Val) (n : Int) (h : St w W a L) :
    Calls Try.prog 19 #[.pointer (some ⟨a, 0, none⟩), valV p, .int .i64 n, valV v] W fun e w' => e = .returned (.int .i64 (storeP L p n v).2) ∧ St w w' a (storeP L p n v).1 ∧ Keep W w' L := by
  obtain ⟨row, hm⟩ := h.mem
  exact (store_any p v n W hm).mono fun e w' ⟨he, h1, h2⟩ => ⟨he, ⟨⟨row, h1⟩, gr_fr hm h.gr h2⟩, Keep.of_fr hm h2⟩
theorem copy_st {w W : World} {a : Nat} {L : List (Nat × Blk)} (p q : Val) (n : Int) (h : St w W a L) :
    Calls Try.prog 21 #[.pointer (some ⟨a, 0, none⟩), valV p, valV q, .int .i64 n] W fun e w' => e = .returned (.int .i64 (copyP L p q n).2) ∧ St w w' a (copyP L p q n).1 ∧ Keep W w' L := by
  obtain ⟨row, hm⟩ := h.mem
  exact (copy_any p q n W hm).mono fun e w' ⟨he, h1, h2⟩ => ⟨he, ⟨⟨row, h1⟩, gr_fr hm h.gr h2⟩, Keep.of_fr hm h2⟩
theorem fill_st {w W : World} {a : Nat} {L : List (Nat × Blk)} (p v n : Val) (h : St w W a L) :
    Calls Try.prog 23 #[.pointer (some ⟨a, 0, none⟩), valV p, valV v, valV n] W fun e w' => e = .returned (.int .i64 (fillP L p v n).2) ∧ St w w' a (fillP L p v n).1 ∧ Keep W w' L := by
  obtain ⟨row, hm⟩ := h.mem
  exact (fill_any p v n W hm).mono fun e w' ⟨he, h1, h2⟩ => ⟨he, ⟨⟨row, h1⟩, gr_fr hm h.gr h2⟩, Keep.of_fr hm h2⟩
theorem end_st {w W : World} {a : Nat} {L : List (Nat × Blk)} (n : Int) (h : St w W a L) :
    Calls Try.prog 15 #[.pointer (some ⟨a, 0, none⟩), .int .i64 n] W fun e w' => e = .returned (.int .i64 (endP L n).2) ∧ St w w' a (endP L n).1 ∧ Keep W w' L := by
  obtain ⟨row, hm⟩ := h.mem
  exact (end_any n W hm).mono fun e w' ⟨he, h1, h2⟩ => ⟨he, ⟨⟨row, h1⟩, gr_fr hm h.gr h2⟩, Keep.of_fr hm h2⟩
theorem add_st {w W : World} {a : Nat} {L : List (Nat × Blk)} (v : Val) (n : Int) (h : St w W a L) :
    Calls Try.prog 25 #[.pointer (some ⟨a, 0, none⟩), valV v, .int .i64 n] W fun e w' => e = .returned (.tuple #[valV (addP L v n).1, .int .i64 (addP L v n).2]) ∧ St w w' a L ∧ W.grownBy w' none := by
  obtain ⟨row, hm⟩ := h.mem
  exact (add_any v n W hm).mono fun e w' ⟨he, h1⟩ => ⟨he, h.gr' h1, h1⟩
theorem block_st {w W : World} {a : Nat} {L : List (Nat × Blk)} (n : Int) (h : St w W a L) :
    Calls Try.prog 27 #[.pointer (some ⟨a, 0, none⟩), .int .i64 n] W fun e w' => e = .returned (.tuple #[.int .i64 (blockP L n).1, .int .i64 (blockP L n).2.1, .bool (blockP L n).2.2]) ∧ St w w' a L ∧ W.grownBy w' none := by
  obtain ⟨row, hm⟩ := h.mem
  exact (block_any n W hm).mono fun e w' ⟨he, h1⟩ => ⟨he, h.gr' h1, h1⟩
theorem bytes_st {w W : World} {a : Nat} {L : List (Nat × Blk)} (n : Int) (h : St w W a L) :
    Calls Try.prog 28 #[.pointer (some ⟨a, 0, none⟩), .int .i64 n] W fun e w' => ∃ v, e = .returned v ∧ ListAt W w' v (bytesP L n) ∧ St w w' a L ∧ W.grownBy w' none := by
  obtain ⟨row, hm⟩ := h.mem
  exact (bytes_any n W hm).mono fun e w' ⟨v, he, h0, h1⟩ => ⟨v, he, h0, h.gr' h1, h1⟩
theorem eqValB (w : World) (n b f n' b' f' : Int) :
    (binOp .eql 29 (.agg #[.int .i64 n, .int .i64 b, .int .i64 f]) (.agg #[.int .i64 n', .int .i64 b', .int .i64 f'])).run Try.prog w = .ok (.bool (decide ((⟨n, b, f⟩ : Val) = ⟨n', b', f'⟩))) w := by
  rw [run_eql_struct, show (10000 : Nat) = 9998 + 2 from rfl, eqVal]
  rfl
theorem neqValB (w : World) (n b f n' b' f' : Int) :
    (binOp .neq 29 (.agg #[.int .i64 n, .int .i64 b, .int .i64 f]) (.agg #[.int .i64 n', .int .i64 b', .int .i64 f'])).run Try.prog w = .ok (.bool (!decide ((⟨n, b, f⟩ : Val) = ⟨n', b', f'⟩))) w := by
  rw [run_neq_struct, show (10000 : Nat) = 9998 + 2 from rfl, eqVal]
  rfl
def shL (g : Nat) : List (Nat × Blk) := (storeP [(g, newB 5 16 false)] ⟨8, 1, 0⟩ 8 ⟨3, 1, 0⟩).1
theorem sh0 (g : Nat) : allocP [] g 5 16 false = ([(g, newB 5 16 false)], 1, 0) := rfl
theorem sh1 (g : Nat) : (storeP [(g, newB 5 16 false)] ⟨8, 1, 0⟩ 8 ⟨3, 1, 0⟩).2 = 0 := by kernel_rfl
theorem sh2 (g : Nat) : loadP (shL g) ⟨8, 1, 0⟩ 8 = (⟨3, 1, 0⟩, 0) := by kernel_rfl
theorem sh3 (g : Nat) : loadP (shL g) ⟨9, 1, 0⟩ 1 = (⟨3, 1, 2⟩, 0) := by kernel_rfl
theorem sh4 (g : Nat) : loadP (shL g) ⟨8, 1, 0⟩ 4 = (val0, 9) := by kernel_rfl
theorem sh5 (g : Nat) : loadP (shL g) ⟨0, 1, 0⟩ 8 = (val0, 9) := by kernel_rfl

end Go.Proofs.Ytblhnjoophhliaa
