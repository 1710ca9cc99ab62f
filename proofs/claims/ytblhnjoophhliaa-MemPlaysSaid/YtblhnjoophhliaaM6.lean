/- mem: the memory in memory; find, within, cut. -/
import Derived.Test.YtblhnjoophhliaaM5
namespace Go.Proofs.Ytblhnjoophhliaa
open Go.RowKit
def rowC (x : Nat × Blk) : Array Value := #[.int .i64 x.2.site, .bool x.2.live, .slice (some ⟨x.1, 0, none⟩) x.2.bytes.length x.2.bytes.length]
theorem rowC_size (x : Nat × Blk) : (rowC x).size = 3 := rfl
theorem rowC_one (x : Nat × Blk) : ∀ u ∈ (rowC x).toList, u.oneCell' = true := by
  intro u hu
  simp [rowC] at hu
  rcases hu with rfl | rfl | rfl <;> rfl
/-- The memory of the pointer to block a: its row, each block with the number of its bytes' own block. -/
structure MemAt (w : World) (B a : Nat) (row : Value) (L : List (Nat × Blk)) : Prop where
  head : w.heap[a]? = some (.cells #[row] 73 (0, 0))
  rows : w.ownsRow B 76 3 row L.length (flatC rowC L)
  bytes : ∀ x ∈ L, BytesAt w x.1 x.2.bytes ∧ B ≤ x.1 ∧ x.2.bytes.length ≤ 4096 ∧ Byts x.2.bytes
  apart : (L.map (·.1)).Nodup
  small : L.length ≤ 2000
  base : B ≤ a
def Foot (a : Nat) (row : Value) (L : List (Nat × Blk)) (k : Nat) : Prop := k = a ∨ row.ownBlock = some k ∨ ∃ x ∈ L, x.1 = k
theorem MemAt.keep {w w' : World} {B a : Nat} {row : Value} {L : List (Nat × Blk)} (h : MemAt w B a row L) (k : ∀ i, Foot a row L i → w'.heap[i]? = w.heap[i]?) : MemAt w' B a row L where
  head := (k a (.inl rfl)).trans h.head
  rows := ⟨h.rows.1, h.rows.2.imp id (by
    rintro ⟨g, cap, cur, e, hg, hh, r⟩
    exact ⟨g, cap, cur, e, hg, (k g (.inr (.inl (by rw [e]; rfl)))).trans hh, r⟩)⟩
  bytes := fun x hx => ⟨(k x.1 (.inr (.inr ⟨x, hx, rfl⟩))).trans (h.bytes x hx).1, (h.bytes x hx).2⟩
  apart := h.apart
  small := h.small
  base := h.base
theorem MemAt.foot_lt {w : World} {B a : Nat} {row : Value} {L : List (Nat × Blk)} (h : MemAt w B a row L) {k : Nat} (hk : Foot a row L k) : k < w.heap.size := by
  rcases hk with rfl | e | ⟨x, hx, rfl⟩
  · exact lt_of_heap h.head
  · rcases h.rows.2 with ⟨e1, _⟩ | ⟨g, cap, cur, e1, hg, hh, r⟩
    · rw [e1] at e; simp [Value.ownBlock] at e
    · rw [e1] at e; simp [Value.ownBlock] at e; subst e; exact lt_of_heap hh
  · exact (h.bytes x hx).1.lt
theorem MemAt.gr {w w' : World} {B a : Nat} {row : Value} {L : List (Nat × Blk)} (h : MemAt w B a row L) (g : w.grownBy w' none) : MemAt w' B a row L :=
  h.keep fun _ hi => g.block _ (h.foot_lt hi) (by simp)
theorem MemAt.hd {w : World} {B a : Nat} {row : Value} {L : List (Nat × Blk)} (h : MemAt w B a row L) : w.cell? ⟨a, 0, none⟩ = some row ∧ w.frozen? ⟨a, 0, none⟩ = false := by
  have e := h.head
  constructor <;> simp [World.cell?, World.frozen?, e]
/-- The row of a memory that has blocks. -/
theorem MemAt.row_some {w : World} {B a : Nat} {row : Value} {L : List (Nat × Blk)} (h : MemAt w B a row L) (hn : 0 < L.length) : ∃ r c, row = .slice (some ⟨r, 0, none⟩) L.length c ∧ B ≤ r ∧ r < w.heap.size := by
  rcases h.rows.2 with ⟨_, h0⟩ | ⟨g, c, cur, e, hb, hg, _⟩
  · omega
  · exact ⟨g, c, e, hb, lt_of_heap hg⟩
/-- The cells of one of its blocks. -/
theorem MemAt.cells {w : World} {B a r c : Nat} {L : List (Nat × Blk)} (h : MemAt w B a (.slice (some ⟨r, 0, none⟩) L.length c) L) {k : Nat} {x : Nat × Blk} (hx : L[k]? = some x) :
    w.cell? ⟨r, k * 3, none⟩ = some (.int .i64 x.2.site) ∧ w.cell? ⟨r, k * 3 + 1, none⟩ = some (.bool x.2.live) ∧ w.cell? ⟨r, k * 3 + 2, none⟩ = some (.slice (some ⟨x.1, 0, none⟩) x.2.bytes.length x.2.bytes.length) ∧
    w.frozen? ⟨r, k * 3, none⟩ = false ∧ w.frozen? ⟨r, k * 3 + 1, none⟩ = false ∧ w.frozen? ⟨r, k * 3 + 2, none⟩ = false := by
  have hk : k < L.length := (List.getElem?_eq_some_iff.1 hx).1
  have hc : ∀ q, q < 3 → w.cell? ⟨r, k * 3 + q, none⟩ = (rowC x)[q]? := fun q hq => by
    rw [h.rows.cellAt _ (by omega), flat_at rowC_size _ _ _ hq, hx]; rfl
  exact ⟨hc 0 (by omega), hc 1 (by omega), hc 2 (by omega), h.rows.frozenAt _, h.rows.frozenAt _, h.rows.frozenAt _⟩
def findI (len : Nat) (n : Int) : Option Nat := if 1 ≤ n ∧ n ≤ len then some (n - 1).toNat else none
theorem findI_some {len : Nat} {n : Int} {k : Nat} (h : findI len n = some k) : n = (k : Int) + 1 ∧ k < len := by
  unfold findI at h
  split at h
  · injection h; omega
  · cases h
theorem findI_none {len : Nat} {n : Int} (h : findI len n = none) : n < 1 ∨ (len : Int) < n := by
  unfold findI at h
  split at h
  · cases h
  · omega
/-- A row's value: nil, or at the head of a block, with as many as there are. -/
theorem MemAt.row_form {w : World} {B a : Nat} {row : Value} {L : List (Nat × Blk)} (h : MemAt w B a row L) : ∃ ad c, row = .slice ad L.length c := by
  rcases h.rows.2 with ⟨e, h0⟩ | ⟨g, c, cur, e, _⟩
  · exact ⟨none, 0, by rw [h0]; exact e⟩
  · exact ⟨some ⟨g, 0, none⟩, c, e⟩
set_option maxRecDepth 100000 in
set_option maxHeartbeats 2000000 in
theorem find_nil (n : Int) (w : World) :
    Calls Try.prog 33 #[.pointer none, .int .i64 n] w fun e w' => e = .returned (.pointer none) ∧ w = w' := by
  go_enter Try.func33, Try.ntmps33
  go_wp2_with fail
  go_ret
  exact ⟨rfl, rfl⟩
set_option maxRecDepth 100000 in
set_option maxHeartbeats 2000000 in
theorem find_no {B a : Nat} {row : Value} {L : List (Nat × Blk)} (n : Int) (w : World) (h : MemAt w B a row L) (hn : findI L.length n = none) :
    Calls Try.prog 33 #[.pointer (some ⟨a, 0, none⟩), .int .i64 n] w fun e w' => e = .returned (.pointer none) ∧ w = w' := by
  obtain ⟨ad, c, rfl⟩ := h.row_form
  obtain ⟨h0, h1⟩ := h.hd
  have hs := h.small
  rcases findI_none hn with hn | hn
  · clear h
    go_enter Try.func33, Try.ntmps33
    go_wp2_with fail
    go_ret
    exact ⟨rfl, rfl⟩
  · by_cases h2 : n < 1
    · clear h
      go_enter Try.func33, Try.ntmps33
      go_wp2_with fail
      go_ret
      exact ⟨rfl, rfl⟩
    · clear h
      go_enter Try.func33, Try.ntmps33
      go_wp2_with fail
      go_ret
      exact ⟨rfl, rfl⟩
set_option maxRecDepth 100000 in
set_option maxHeartbeats 2000000 in
theorem find_yes {B a r c : Nat} {L : List (Nat × Blk)} (n : Int) (k : Nat) (w : World) (h : MemAt w B a (.slice (some ⟨r, 0, none⟩) L.length c) L) (hn : findI L.length n = some k) :
    Calls Try.prog 33 #[.pointer (some ⟨a, 0, none⟩), .int .i64 n] w fun e w' => e = .returned (.pointer (some ⟨r, k * 3, none⟩)) ∧ w = w' := by
  obtain ⟨h0, h1⟩ := h.hd
  have hs := h.small
  obtain ⟨rfl, hk⟩ := findI_some hn
  clear h hn
  have e0 : decide ((k : Int) + 1 < 1) = false := decide_eq_false (by omega)
  have e1 : decide ((L.length : Int) < (k : Int) + 1) = false := decide_eq_false (by omega)
  go_enter Try.func33, Try.ntmps33
  go_wp2_with fail
  go_ret
  exact ⟨rfl, rfl⟩
def witB (size : Nat) (q n : Int) : Bool := decide (0 ≤ q ∧ q ≤ size ∧ -q ≤ n ∧ n ≤ size - q)
set_option maxRecDepth 100000 in
set_option maxHeartbeats 2000000 in
theorem within_any {r o len cap : Nat} {ad : Option Addr} (q n : Int) (w : World) (h : w.cell? ⟨r, o + 2, none⟩ = some (.slice ad len cap)) (hl : len ≤ 4096) :
    Calls Try.prog 47 #[.pointer (some ⟨r, o, none⟩), .int .i64 q, .int .i64 n] w fun e w' => e = .returned (.bool (witB len q n)) ∧ w = w' := by
  unfold witB
  by_cases h0 : 0 ≤ q
  · by_cases h1 : q ≤ len
    · by_cases h2 : -q ≤ n
      · by_cases h3 : n ≤ len - q
        · rw [decide_eq_true ⟨h0, h1, h2, h3⟩]
          go_enter Try.func47, Try.ntmps47
          go_wp2_with fail
          go_ret
          exact ⟨rfl, rfl⟩
        · rw [decide_eq_false (fun h => h3 h.2.2.2)]
          go_enter Try.func47, Try.ntmps47
          go_wp2_with fail
          go_ret
          exact ⟨rfl, rfl⟩
      · rw [decide_eq_false (fun h => h2 h.2.2.1)]
        go_enter Try.func47, Try.ntmps47
        go_wp2_with fail
        go_ret
        exact ⟨rfl, rfl⟩
    · rw [decide_eq_false (fun h => h1 h.2.1)]
      go_enter Try.func47, Try.ntmps47
      go_wp2_with fail
      go_ret
      exact ⟨rfl, rfl⟩
  · rw [decide_eq_false (fun h => h0 h.1)]
    go_enter Try.func47, Try.ntmps47
    go_wp2_with fail
    go_ret
    exact ⟨rfl, rfl⟩

end Go.Proofs.Ytblhnjoophhliaa
