/- mem: bytes in memory, one behind the other; one of them turned; part, setNumber. -/
import Derived.Test.YtblhnjoophhliaaM1
namespace Go.Proofs.Ytblhnjoophhliaa
open Go.RowKit
/-- All cells of some structs. -/
def flatC {α : Type} (C : α → Array Value) (l : List α) : List Value := l.flatMap fun x => (C x).toList
theorem flat_len {α : Type} {C : α → Array Value} {m : Nat} (hm : ∀ x, (C x).size = m) : ∀ l : List α, (flatC C l).length = l.length * m
  | [] => by simp [flatC]
  | x :: r => by
    have h := flat_len hm r
    show ((C x).toList ++ flatC C r).length = _
    rw [List.length_append, h, Array.length_toList, hm, List.length_cons, Nat.add_mul]
    omega
theorem flat_at {α : Type} {C : α → Array Value} {m : Nat} (hm : ∀ x, (C x).size = m) : ∀ (l : List α) (j k : Nat), k < m → (flatC C l)[j * m + k]? = (l[j]?).bind fun x => (C x)[k]?
  | [], j, k, _ => by simp [flatC]
  | x :: r, j, k, hk => by
    show ((C x).toList ++ flatC C r)[j * m + k]? = _
    rcases j with _ | j
    · rw [Nat.zero_mul, Nat.zero_add, List.getElem?_append_left (by rw [Array.length_toList, hm]; exact hk)]
      simp
    · rw [List.getElem?_append_right (by rw [Array.length_toList, hm, Nat.add_mul]; omega), Array.length_toList, hm, show (j + 1) * m + k - m = j * m + k by rw [Nat.add_mul]; omega, flat_at hm r j k hk]
      simp
theorem flat_app {α : Type} (C : α → Array Value) (a b : List α) : flatC C (a ++ b) = flatC C a ++ flatC C b := List.flatMap_append
theorem flat_one {α : Type} {C : α → Array Value} (h1 : ∀ x, ∀ u ∈ (C x).toList, u.oneCell' = true) (l : List α) : ∀ u ∈ flatC C l, u.oneCell' = true := by
  intro u hu
  obtain ⟨x, _, hx⟩ := List.mem_flatMap.1 hu
  exact h1 x u hx
theorem flat_set {α : Type} {C : α → Array Value} {m : Nat} (hm : ∀ x, (C x).size = m) {l : List α} {k : Nat} (hk : k < l.length) (f : α) :
    ∃ c1 c2, c1.length = k * m ∧ flatC C l = c1 ++ ((C l[k]).toList ++ c2) ∧ flatC C (l.set k f) = c1 ++ ((C f).toList ++ c2) := by
  have e : l = l.take k ++ l[k] :: l.drop (k + 1) := by rw [← List.drop_eq_getElem_cons hk, List.take_append_drop]
  have hl : (l.take k).length = k := by rw [List.length_take]; omega
  refine ⟨flatC C (l.take k), flatC C (l.drop (k + 1)), by rw [flat_len hm, hl], ?_, ?_⟩
  · conv => lhs; rw [e]
    rw [flat_app]; rfl
  · conv => lhs; rw [e]
    rw [List.set_append_right _ _ (by omega), hl, Nat.sub_self, List.set_cons_zero, flat_app]; rfl
theorem bytC_size (b : Byt) : (bytC b).size = 5 := rfl
theorem bytC_one (b : Byt) : ∀ u ∈ (bytC b).toList, u.oneCell' = true := by
  intro u hu
  simp [bytC] at hu
  rcases hu with rfl | rfl | rfl | rfl | rfl <;> rfl
/-- Block g is just these bytes. -/
def BytesAt (w : World) (g : Nat) (M : List Byt) : Prop := w.heap[g]? = some (.cells (flatC bytC M).toArray 67 (0, 0))
section
variable {w w' : World} {g : Nat} {M : List Byt}
theorem BytesAt.lt (h : BytesAt w g M) : g < w.heap.size := lt_of_heap h
theorem BytesAt.gr {r : Option Nat} (h : BytesAt w g M) (k : w.grownBy w' r) (hr : some g ≠ r) : BytesAt w' g M := (k.block g h.lt hr).trans h
theorem BytesAt.froz (h : BytesAt w g M) (o : Nat) : w.frozen? ⟨g, o, none⟩ = false := by unfold BytesAt at h; simp [World.frozen?, h]
theorem BytesAt.cell (h : BytesAt w g M) (j : Nat) : w.cell? ⟨g, j, none⟩ = (flatC bytC M)[j]? := by unfold BytesAt at h; simp [World.cell?, h]
theorem BytesAt.at_ (h : BytesAt w g M) {j : Nat} {b : Byt} (hj : M[j]? = some b) (k : Nat) (hk : k < 5) : w.cell? ⟨g, j * 5 + k, none⟩ = (bytC b)[k]? := by
  rw [h.cell, flat_at bytC_size _ _ _ hk, hj]; rfl
theorem BytesAt.set (h : BytesAt w g M) {k : Nat} (hk : k < M.length) (b : Byt) :
    BytesAt (((((w.setCell ⟨g, k * 5, none⟩ (.int .i64 b.k)).setCell ⟨g, k * 5 + 1, none⟩ (.int .u8 b.v)).setCell ⟨g, k * 5 + 2, none⟩ (.int .i64 b.p.n)).setCell ⟨g, k * 5 + 3, none⟩ (.int .i64 b.p.b)).setCell ⟨g, k * 5 + 4, none⟩ (.int .i64 b.p.f)) g (M.set k b) := by
  obtain ⟨c1, c2, hc, e1, e2⟩ := flat_set bytC_size hk b
  have hl : (bytC M[k]).toList = [.int .i64 M[k].k, .int .u8 M[k].v, .int .i64 M[k].p.n, .int .i64 M[k].p.b, .int .i64 M[k].p.f] := rfl
  have hb : (bytC b).toList = [.int .i64 b.k, .int .u8 b.v, .int .i64 b.p.n, .int .i64 b.p.b, .int .i64 b.p.f] := rfl
  unfold BytesAt at *
  rw [e2, hb]
  rw [e1, hl] at h
  simp [World.setCell, Array.getElem?_modify, h]
  rw [List.set_append_right _ _ (by omega), hc, Nat.sub_self]
  rw [List.set_append_right _ _ (by omega), hc, show k * 5 + 1 - k * 5 = 1 by omega]
  rw [List.set_append_right _ _ (by omega), hc, show k * 5 + 2 - k * 5 = 2 by omega]
  rw [List.set_append_right _ _ (by omega), hc, show k * 5 + 3 - k * 5 = 3 by omega]
  rw [List.set_append_right _ _ (by omega), hc, show k * 5 + 4 - k * 5 = 4 by omega]
  rfl
end
/-- The cells of one byte, and that they may be written. -/
theorem BytesAt.open5 {w : World} {g o k : Nat} {M : List Byt} (h : BytesAt w g M) (hk : o + k < M.length) :
    ∃ x, M[o + k]? = some x ∧ w.cell? ⟨g, o * 5 + k * 5, none⟩ = some (.int .i64 x.k) ∧ w.cell? ⟨g, o * 5 + k * 5 + 1, none⟩ = some (.int .u8 x.v) ∧ w.cell? ⟨g, o * 5 + k * 5 + 2, none⟩ = some (.int .i64 x.p.n) ∧
      w.cell? ⟨g, o * 5 + k * 5 + 3, none⟩ = some (.int .i64 x.p.b) ∧ w.cell? ⟨g, o * 5 + k * 5 + 4, none⟩ = some (.int .i64 x.p.f) ∧
      w.frozen? ⟨g, o * 5 + k * 5, none⟩ = false ∧ w.frozen? ⟨g, o * 5 + k * 5 + 1, none⟩ = false ∧ w.frozen? ⟨g, o * 5 + k * 5 + 2, none⟩ = false ∧ w.frozen? ⟨g, o * 5 + k * 5 + 3, none⟩ = false ∧ w.frozen? ⟨g, o * 5 + k * 5 + 4, none⟩ = false := by
  have hx := List.getElem?_eq_getElem hk
  have hb := fun q hq => h.at_ hx q hq
  rw [show (o + k) * 5 = o * 5 + k * 5 by omega] at hb
  exact ⟨_, hx, hb 0 (by omega), hb 1 (by omega), hb 2 (by omega), hb 3 (by omega), hb 4 (by omega), h.froz _, h.froz _, h.froz _, h.froz _, h.froz _⟩
/-- The world with one byte stored. -/
def putW (w : World) (g o : Nat) (b : Byt) : World :=
  ((((w.setCell ⟨g, o, none⟩ (.int .i64 b.k)).setCell ⟨g, o + 1, none⟩ (.int .u8 b.v)).setCell ⟨g, o + 2, none⟩ (.int .i64 b.p.n)).setCell ⟨g, o + 3, none⟩ (.int .i64 b.p.b)).setCell ⟨g, o + 4, none⟩ (.int .i64 b.p.f)
theorem BytesAt.put {w : World} {g o k : Nat} {M : List Byt} (h : BytesAt w g M) (hk : o + k < M.length) (b : Byt) : BytesAt (putW w g (o * 5 + k * 5) b) g (M.set (o + k) b) := by
  have := h.set hk b
  rw [show (o + k) * 5 = o * 5 + k * 5 by omega] at this
  exact this
/-- A store into a block of the call's own. -/
theorem gr_own_set {a b : World} {g : Nat} (h : a.grownBy b (some g)) (o : Nat) (v : Value) : a.grownBy (b.setCell ⟨g, o, none⟩ v) (some g) :=
  ⟨h.os, h.tape, h.output, by rw [show (b.setCell ⟨g, o, none⟩ v).heap.size = b.heap.size by simp [World.setCell]]; exact h.size, fun k hk hn => (Below.heap_setCell _ _ _ _ (fun e => hn (by rw [e]))).trans (h.block k hk hn)⟩
theorem gr_put {a w : World} {g : Nat} (h : a.grownBy w (some g)) (o : Nat) (b : Byt) : a.grownBy (putW w g o b) (some g) :=
  gr_own_set (gr_own_set (gr_own_set (gr_own_set (gr_own_set h _ _) _ _) _ _) _ _) _ _
theorem splice_nil {α : Type} (L : List α) (o : Nat) : splice L o [] = L := by simp [splice]
theorem splice_snoc {α : Type} (L : List α) (o : Nat) (news : List α) (b : α) (h : o + news.length < L.length) : (splice L o news).set (o + news.length) b = splice L o (news ++ [b]) := by
  unfold splice
  have hl : (L.take o).length = o := by rw [List.length_take]; omega
  rw [List.set_append_right _ _ (by omega), hl, show o + news.length - o = news.length by omega, List.set_append_right _ _ (by omega), Nat.sub_self, List.drop_eq_getElem_cons h, List.set_cons_zero]
  simp [Nat.add_assoc]
theorem splice_len {α : Type} (L : List α) (o : Nat) (news : List α) (h : o + news.length ≤ L.length) : (splice L o news).length = L.length := length_splice L o news h
set_option maxRecDepth 100000 in
set_option maxHeartbeats 2000000 in
theorem part_any (v : Val) (q : Int) (w : World) :
    Calls Try.prog 50 #[valV v, .int .i64 q] w fun e w' => e = .returned (bytV ⟨2, 0, v.n, v.b, q⟩) ∧ w.grownBy w' none := by
  obtain ⟨n, b, f⟩ := v
  unfold valV valC bytV bytC
  dsimp only
  go_enter Try.func50, Try.ntmps50
  go_wp2_with fail
  exact bodyPost_ret (v := .agg #[.int .i64 2, .int .u8 0, .int .i64 n, .int .i64 b, .int .i64 q]) (by simp [results, Try.results50, go_sem]) rfl ⟨rfl, by repeat (first | with_reducible exact grownBy_refl _ _ | with_reducible assumption | with_reducible refine World.grownBy.gr_drew ?_ | with_reducible refine World.grownBy.gr_set ?_ (by simp) _ | with_reducible refine gr_alloc ?_ _)⟩
set_option maxRecDepth 100000 in
set_option maxHeartbeats 2000000 in
theorem at_any (q : Int) (w : World) :
    Calls Try.prog 31 #[.int .i64 q] w fun e w' => e = .returned (.agg #[.int .i64 q, .int .i64 1, .int .i64 0]) ∧ w.grownBy w' none := by
  go_enter Try.func31, Try.ntmps31
  go_wp2_with fail
  exact bodyPost_ret (v := .agg #[.int .i64 q, .int .i64 1, .int .i64 0]) (by simp [results, Try.results31, go_sem]) rfl ⟨rfl, by repeat (first | with_reducible exact grownBy_refl _ _ | with_reducible assumption | with_reducible refine World.grownBy.gr_drew ?_ | with_reducible refine World.grownBy.gr_set ?_ (by simp) _ | with_reducible refine gr_alloc ?_ _)⟩
def nums (c : Int) (k : Nat) : List Byt := List.replicate k ⟨1, c, val0⟩
theorem nums_len (c : Int) (k : Nat) : (nums c k).length = k := List.length_replicate
theorem nums_succ (c : Int) (k : Nat) : nums c k ++ [⟨1, c, val0⟩] = nums c (k + 1) := by unfold nums; rw [List.replicate_succ', ]
set_option maxRecDepth 100000 in
set_option maxHeartbeats 4000000 in
theorem setNumber_any (g o n cap : Nat) (c : Int) (M : List Byt) (w : World) (hM : BytesAt w g M) (hn : o + n ≤ M.length) (hs : M.length ≤ 4096) :
    Calls Try.prog 32 #[.slice (some ⟨g, o * 5, none⟩) n cap, .int .u8 c] w fun e w' => e = .returned (.tuple #[]) ∧ BytesAt w' g (splice M o (nums c n)) ∧ w.grownBy w' (some g) := by
  have HM := Lib.hid hM
  clear hM
  go_enter Try.func32, Try.ntmps32
  go_wp2_with fail
  go_loopw [7] (fun i wr => ∃ k : Nat, k ≤ n ∧ i = .int .i64 k ∧ BytesAt wr g (splice M o (nums c k)) ∧ w.grownBy wr (some g)) (fun i _ => n - (intOf i).toNat)
  case atStart => exact ⟨0, Nat.zero_le _, rfl, by rw [show nums c 0 = [] from rfl, splice_nil]; exact HM.out, grownBy_refl _ _⟩
  case round =>
    obtain ⟨k, hk, rfl, hB, hg⟩ := hrel
    have HB := Lib.hid hB
    have HG := Lib.hid hg
    clear hB hg
    by_cases hlt : k < n
    · have hl : (splice M o (nums c k)).length = M.length := splice_len _ _ _ (by rw [nums_len]; omega)
      have ho : o + k < (splice M o (nums c k)).length := by rw [hl]; omega
      obtain ⟨x, _, c0, c1, c2, c3, c4, z0, z1, z2, z3, z4⟩ := HB.out.open5 ho
      have HL := Lib.hid hl
      clear hl ho
      go_wp2_with fail
      go_roundw
      case rel =>
        refine ⟨k + 1, by omega, by go_num, ?_, gr_put HG.out (o * 5 + k * 5) ⟨1, c, val0⟩⟩
        have h := HB.out.put (k := k) (o := o) (by rw [HL.out]; omega) ⟨1, c, val0⟩
        have e := splice_snoc M o (nums c k) ⟨1, c, val0⟩ (by rw [nums_len]; omega)
        rw [nums_len, nums_succ] at e
        rw [e] at h
        exact h
      case measure => simp [intOf]; omega
    · have e : k = n := by omega
      subst e
      clear hlt
      go_wp2_with fail
      go_end0
      exact ⟨rfl, HB.out, HG.out⟩

end Go.Proofs.Ytblhnjoophhliaa
