/- mem: End, Block, Bytes. -/
import Derived.Test.YtblhnjoophhliaaM10
namespace Go.Proofs.Ytblhnjoophhliaa
open Go.RowKit
def endB (x : Nat × Blk) : Nat × Blk := (x.1, { x.2 with live := false })
def endP (L : List (Nat × Blk)) (n : Int) : List (Nat × Blk) × Int :=
  match findI L.length n with
  | none => (L, 9)
  | some k => match L[k]? with
    | none => (L, 9)
    | some x => if x.2.live = true then (L.set k (endB x), 0) else (L, 9)
theorem row_put1 {w : World} {B e r n cap k : Nat} {c1 c2 : List Value} {x0 x1 x2 : Value} (h : w.ownsRow B e 3 (.slice (some ⟨r, 0, none⟩) n cap) n (c1 ++ ([x0, x1, x2] ++ c2))) (hk : c1.length = k * 3) (y : Value) :
    (w.setCell ⟨r, k * 3 + 1, none⟩ y).ownsRow B e 3 (.slice (some ⟨r, 0, none⟩) n cap) n (c1 ++ ([x0, y, x2] ++ c2)) := by
  refine ⟨by have := h.1; simp at this ⊢; omega, ?_⟩
  rcases h.2 with ⟨h0, _⟩ | ⟨g', cap', cur, hv, hg, hh, hn, hc, hs, ht⟩
  · cases h0
  · simp only [Value.slice.injEq, Option.some.injEq, Addr.mk.injEq] at hv
    obtain ⟨⟨rfl, _, _⟩, _, rfl⟩ := hv
    refine .inr ⟨r, cap, cur.setIfInBounds (k * 3 + 1) y, rfl, hg, ?_, hn, hc, by simpa using hs, ?_⟩
    · simp [World.setCell, Array.getElem?_modify, hh]
    · simp only [Array.toList_setIfInBounds, List.take_set, ht]
      rw [List.set_append_right _ _ (by omega), hk, show k * 3 + 1 - k * 3 = 1 by omega]
      rfl
theorem MemAt.end_ {w : World} {B a r c : Nat} {L : List (Nat × Blk)} (h : MemAt w B a (.slice (some ⟨r, 0, none⟩) L.length c) L) {k : Nat} {x : Nat × Blk} (hx : L[k]? = some x) :
    MemAt (w.setCell ⟨r, k * 3 + 1, none⟩ (.bool false)) B a (.slice (some ⟨r, 0, none⟩) L.length c) (L.set k (endB x)) := by
  have hk : k < L.length := (List.getElem?_eq_some_iff.1 hx).1
  have hxx : L[k] = x := (List.getElem?_eq_some_iff.1 hx).2
  have hr : ∃ cur, w.heap[r]? = some (.cells cur 76 (0, 0)) := by
    rcases h.rows.2 with ⟨h0, _⟩ | ⟨g', cap', cur, hv, hg, hh, _⟩
    · cases h0
    · simp only [Value.slice.injEq, Option.some.injEq, Addr.mk.injEq] at hv
      obtain ⟨⟨rfl, _, _⟩, _, rfl⟩ := hv
      exact ⟨cur, hh⟩
  obtain ⟨cur, hr⟩ := hr
  have ne : ∀ {i : Nat} {cs : Array Value} {t : TypeId}, w.heap[i]? = some (.cells cs t (0, 0)) → t ≠ 76 → i ≠ r := by
    intro i cs t hi ht e
    subst e
    rw [hr] at hi
    injection hi with hi
    injection hi with _ hi
    exact ht hi.symm
  have keep : ∀ i, i ≠ r → (w.setCell ⟨r, k * 3 + 1, none⟩ (.bool false)).heap[i]? = w.heap[i]? := fun i hi => Below.heap_setCell _ _ _ _ hi
  refine ⟨(keep a (ne h.head (by decide))).trans h.head, ?_, ?_, ?_, by rw [List.length_set]; exact h.small, h.base⟩
  · obtain ⟨c1, c2, hd, e1, e2⟩ := flat_set rowC_size hk (endB x)
    rw [List.length_set, e2]
    have hrow := h.rows
    rw [e1, hxx] at hrow
    exact row_put1 (x0 := .int .i64 x.2.site) (x1 := .bool x.2.live) (x2 := .slice (some ⟨x.1, 0, none⟩) x.2.bytes.length x.2.bytes.length) hrow hd (.bool false)
  · intro y hy
    rcases List.mem_or_eq_of_mem_set hy with hy' | rfl
    · obtain ⟨b1, b2⟩ := h.bytes y hy'
      exact ⟨(keep _ (ne b1 (by decide))).trans b1, b2⟩
    · obtain ⟨b1, b2⟩ := h.bytes x (List.mem_of_getElem? hx)
      exact ⟨(keep _ (ne b1 (by decide))).trans b1, b2⟩
  · have e : (L.set k (endB x)).map (·.1) = L.map (·.1) := by
      rw [List.map_set]
      show (L.map (·.1)).set k x.1 = _
      have : (L.map (·.1))[k]? = some x.1 := by rw [List.getElem?_map, hx]; rfl
      apply List.ext_getElem?
      intro j
      by_cases hjk : k = j
      · subst hjk; rw [List.getElem?_set_self (by simpa using hk), this]
      · rw [List.getElem?_set_ne hjk]
    rw [e]; exact h.apart
set_option maxRecDepth 100000 in
set_option maxHeartbeats 4000000 in
theorem end_none (m : Value) (n : Int) (w : World) (hf : Calls Try.prog 33 #[m, .int .i64 n] w fun e w' => e = .returned (.pointer none) ∧ w = w') :
    Calls Try.prog 15 #[m, .int .i64 n] w fun e w' => e = .returned (.int .i64 9) ∧ w = w' := by
  have HF := Lib.hid hf
  clear hf
  go_enter Try.func15, Try.ntmps15
  go_wp2_with fail
  refine (HF.out).mono ?_
  rintro e w0 ⟨rfl, rfl⟩
  go_wp2_with fail
  go_ret
  exact ⟨rfl, rfl⟩
set_option maxRecDepth 100000 in
set_option maxHeartbeats 4000000 in
theorem end_some {B a r c : Nat} {L : List (Nat × Blk)} (n : Int) (k : Nat) (w : World) (h : MemAt w B a (.slice (some ⟨r, 0, none⟩) L.length c) L) (hf : findI L.length n = some k) {x : Nat × Blk} (hx : L[k]? = some x) :
    Calls Try.prog 15 #[.pointer (some ⟨a, 0, none⟩), .int .i64 n] w fun e w' => e = .returned (.int .i64 (if x.2.live = true then 0 else 9)) ∧ w' = (if x.2.live = true then w.setCell ⟨r, k * 3 + 1, none⟩ (.bool false) else w) := by
  have HF := Lib.hid (find_yes n k w h hf)
  obtain ⟨c0, c1, c2, z0, z1, z2⟩ := h.cells hx
  clear h hf
  generalize x.2.live = l at *
  cases l
  · rw [if_neg (by simp), if_neg (by simp)]
    go_enter Try.func15, Try.ntmps15
    go_wp2_with fail
    refine (HF.out).mono ?_
    rintro e w0 ⟨rfl, rfl⟩
    go_wp2_with fail
    go_ret
    exact ⟨rfl, rfl⟩
  · rw [if_pos rfl, if_pos rfl]
    go_enter Try.func15, Try.ntmps15
    go_wp2_with fail
    refine (HF.out).mono ?_
    rintro e w0 ⟨rfl, rfl⟩
    go_wp2_with fail
    go_ret
    exact ⟨rfl, rfl⟩
theorem end_any {B a : Nat} {row : Value} {L : List (Nat × Blk)} (n : Int) (w : World) (h : MemAt w B a row L) :
    Calls Try.prog 15 #[.pointer (some ⟨a, 0, none⟩), .int .i64 n] w fun e w' => e = .returned (.int .i64 (endP L n).2) ∧ MemAt w' B a row (endP L n).1 ∧ Fr w w' a row L := by
  unfold endP
  rcases hf : findI L.length n with _ | k
  · exact (end_none _ n w (find_no n w h hf)).mono fun e w' ⟨he, hw⟩ => ⟨he, by rw [← hw]; exact h, by rw [← hw]; exact Fr.of_gr (grownBy_refl _ _)⟩
  · obtain ⟨x, hx⟩ : ∃ x, L[k]? = some x := ⟨_, List.getElem?_eq_getElem (findI_some hf).2⟩
    obtain ⟨r, c, rfl, hbr, hrw⟩ := h.row_some (by have := (findI_some hf).2; omega)
    simp only [hx]
    refine (end_some n k w h hf hx).mono fun e w' ⟨he, hw⟩ => ?_
    by_cases hl : x.2.live = true
    · rw [if_pos hl] at he hw ⊢
      subst hw
      exact ⟨he, h.end_ hx, Fr.of_own (g := r) (gr_own_set (grownBy_refl _ _) _ _) (.inr (.inl rfl))⟩
    · rw [if_neg hl] at he hw ⊢
      subst hw
      exact ⟨he, h, Fr.of_gr (grownBy_refl _ _)⟩
theorem end_nobody (n : Int) (w : World) : Calls Try.prog 15 #[.pointer none, .int .i64 n] w fun e w' => e = .returned (.int .i64 9) ∧ w = w' := end_none _ n w (find_nil n w)
def blockP (L : List (Nat × Blk)) (n : Int) : Int × Int × Bool :=
  match findI L.length n with
  | none => (0, 0, false)
  | some k => match L[k]? with
    | none => (0, 0, false)
    | some x => (x.2.site, x.2.bytes.length, x.2.live)
set_option maxRecDepth 100000 in
set_option maxHeartbeats 4000000 in
theorem block_none (m : Value) (n : Int) (w : World) (hf : Calls Try.prog 33 #[m, .int .i64 n] w fun e w' => e = .returned (.pointer none) ∧ w = w') :
    Calls Try.prog 27 #[m, .int .i64 n] w fun e w' => e = .returned (.tuple #[.int .i64 0, .int .i64 0, .bool false]) ∧ w.grownBy w' none := by
  have HF := Lib.hid hf
  clear hf
  go_enter Try.func27, Try.ntmps27
  go_wp2_with fail
  refine (HF.out).mono ?_
  rintro e w0 ⟨rfl, rfl⟩
  go_wp2_with fail
  go_ret3
  exact ⟨rfl, grownBy_refl _ _⟩
set_option maxRecDepth 100000 in
set_option maxHeartbeats 4000000 in
theorem block_some {B a r c : Nat} {L : List (Nat × Blk)} (n : Int) (k : Nat) (w : World) (h : MemAt w B a (.slice (some ⟨r, 0, none⟩) L.length c) L) (hf : findI L.length n = some k) {x : Nat × Blk} (hx : L[k]? = some x) :
    Calls Try.prog 27 #[.pointer (some ⟨a, 0, none⟩), .int .i64 n] w fun e w' => e = .returned (.tuple #[.int .i64 x.2.site, .int .i64 x.2.bytes.length, .bool x.2.live]) ∧ w.grownBy w' none := by
  have HF := Lib.hid (find_yes n k w h hf)
  obtain ⟨c0, c1, c2, z0, z1, z2⟩ := h.cells hx
  clear h hf z0 z1 z2
  go_enter Try.func27, Try.ntmps27
  go_wp2_with fail
  refine (HF.out).mono ?_
  rintro e w0 ⟨rfl, rfl⟩
  go_wp2_with fail
  go_quiet (fail)
  go_wp2_with fail
  go_ret3
  exact ⟨rfl, gr_drewN (grownBy_refl _ _) _⟩
theorem block_any {B a : Nat} {row : Value} {L : List (Nat × Blk)} (n : Int) (w : World) (h : MemAt w B a row L) :
    Calls Try.prog 27 #[.pointer (some ⟨a, 0, none⟩), .int .i64 n] w fun e w' => e = .returned (.tuple #[.int .i64 (blockP L n).1, .int .i64 (blockP L n).2.1, .bool (blockP L n).2.2]) ∧ w.grownBy w' none := by
  unfold blockP
  rcases hf : findI L.length n with _ | k
  · exact block_none _ n w (find_no n w h hf)
  · obtain ⟨x, hx⟩ : ∃ x, L[k]? = some x := ⟨_, List.getElem?_eq_getElem (findI_some hf).2⟩
    obtain ⟨r, c, rfl, hbr, hrw⟩ := h.row_some (by have := (findI_some hf).2; omega)
    simp only [hx]
    exact block_some n k w h hf hx
theorem block_nobody (n : Int) (w : World) : Calls Try.prog 27 #[.pointer none, .int .i64 n] w fun e w' => e = .returned (.tuple #[.int .i64 0, .int .i64 0, .bool false]) ∧ w.grownBy w' none := block_none _ n w (find_nil n w)
set_option maxRecDepth 100000 in
set_option maxHeartbeats 4000000 in
theorem bytes_none (m : Value) (n : Int) (w : World) (hf : Calls Try.prog 33 #[m, .int .i64 n] w fun e w' => e = .returned (.pointer none) ∧ w = w') :
    Calls Try.prog 28 #[m, .int .i64 n] w fun e w' => e = .returned (.slice none 0 0) ∧ w = w' := by
  have HF := Lib.hid hf
  clear hf
  go_enter Try.func28, Try.ntmps28
  go_wp2_with fail
  refine (HF.out).mono ?_
  rintro e w0 ⟨rfl, rfl⟩
  go_wp2_with fail
  go_ret
  exact ⟨rfl, rfl⟩
theorem bytes_nobody (n : Int) (w : World) : Calls Try.prog 28 #[.pointer none, .int .i64 n] w fun e w' => e = .returned (.slice none 0 0) ∧ w = w' := bytes_none _ n w (find_nil n w)
theorem infoByte : (Try.prog.info? 67).map (fun i => (i.zero, i.size, i.bytes)) = some (some (.agg #[.int .i64 0, .int .u8 0, .int .i64 0, .int .i64 0, .int .i64 0]), 5, 40) := by kernel_rfl
theorem made_bytes (n : Nat) : (madeCells (Value.agg #[.int .i64 0, .int .u8 0, .int .i64 0, .int .i64 0, .int .i64 0]).cells (n * 5)).toList = flatC bytC (List.replicate n byt0) := by
  apply List.ext_getElem?
  intro j
  by_cases hj : j < n * 5
  · have hd : j = j / 5 * 5 + j % 5 := by omega
    have h5 : j % 5 < 5 := Nat.mod_lt _ (by omega)
    have hn : j / 5 < n := by omega
    conv => rhs; rw [hd]
    rw [flat_at bytC_size _ _ _ h5, List.getElem?_replicate, if_pos hn]
    unfold madeCells
    rw [Array.getElem?_toList, Array.getElem?_map, Array.getElem?_range, if_pos hj]
    simp only [Option.map_some, Option.bind_some, Value.cells]
    have : j % 5 = 0 ∨ j % 5 = 1 ∨ j % 5 = 2 ∨ j % 5 = 3 ∨ j % 5 = 4 := by omega
    rcases this with h | h | h | h | h <;> simp [h, bytC, byt0, val0]
  · rw [List.getElem?_eq_none (by rw [Array.length_toList, size_madeCells]; omega), List.getElem?_eq_none (by rw [flat_len bytC_size, List.length_replicate]; omega)]
theorem zeros_byts (n : Nat) : Byts (List.replicate n byt0) := fun b hb => by
  have := List.eq_of_mem_replicate hb
  subst this
  exact ⟨Int.le_refl _, by show (0 : Int) < 256; omega⟩
/-- A new block of bytes that hold nothing. -/
theorem own_bytes {w : World} {g n : Nat} {cap : Nat} (h : w.ownsRow g 67 5 (.slice (some ⟨g, 0, none⟩) n cap) n (flatC bytC (List.replicate n byt0))) (hc : cap = n) : BytesAt w g (List.replicate n byt0) := by
  subst hc
  rcases h.2 with ⟨h0, _⟩ | ⟨g', cap', cur, hv, hg, hh, hn, hcm, hs, ht⟩
  · cases h0
  · simp only [Value.slice.injEq, Option.some.injEq, Addr.mk.injEq] at hv
    obtain ⟨⟨rfl, _, _⟩, _, rfl⟩ := hv
    unfold BytesAt
    rw [hh, ← ht, List.take_of_length_le (by rw [Array.length_toList]; omega)]
theorem wpList_copy_bytes0 {w : World} {ops : Array Oper} {rest : List Oper} {oo : Oper} {a : Act} {Q : Exit → Act → World → Prop} (hgd : oo.guard = none) (d s : Operand)
    (ho : oo.op = .call { callee := .builtin .copy, args := #[d, s], argTypes := #[55, 55] })
    (g g' n dc sc : Nat) (hd : a.eval d = .slice (some ⟨g, 0, none⟩) n dc) (hs : a.eval s = .slice (some ⟨g', 0, none⟩) n sc)
    (M M' : List Byt) (hM : BytesAt w g M) (hM' : BytesAt w g' M') (hn : M.length = n) (hn' : M'.length = n)
    (h : ∀ w', Hid (BytesAt w' g M') → Hid (w.grownBy w' (some g)) → wpList Try.prog ops Q rest (a.put oo.dst (goInt n)) w') :
    wpList Try.prog ops Q (oo :: rest) a w := by
  refine wpList_copy_bytes hgd d s ho g 0 g' 0 n dc sc hd hs M M' hM hM' (by omega) (by omega) fun w' h1 h2 => h w' ?_ h2
  have e : splice M 0 (segL M' 0 n) = M' := by
    unfold splice segL
    rw [List.take_zero, List.drop_zero, List.nil_append, List.take_of_length_le (by omega), List.drop_of_length_le (by omega), List.append_nil]
  rw [e] at h1
  exact h1
theorem gr_new {w a b : World} (h : w.grownBy a none) (k : a.grownBy b (some w.heap.size)) : w.grownBy b none :=
  ⟨k.os.trans h.os, k.tape.trans h.tape, k.output.trans h.output, Nat.le_trans h.size k.size, fun i hi _ => (k.block i (Nat.lt_of_lt_of_le hi h.size) (fun e => by injection e; omega)).trans (h.block i hi (by simp))⟩
set_option maxRecDepth 100000 in
set_option maxHeartbeats 4000000 in
theorem bytes_some {B a r c : Nat} {L : List (Nat × Blk)} (n : Int) (k : Nat) (w : World) (h : MemAt w B a (.slice (some ⟨r, 0, none⟩) L.length c) L) (hf : findI L.length n = some k) {x : Nat × Blk} (hx : L[k]? = some x) :
    Calls Try.prog 28 #[.pointer (some ⟨a, 0, none⟩), .int .i64 n] w fun e w' => e = .returned (.slice (some ⟨w.heap.size, 0, none⟩) x.2.bytes.length x.2.bytes.length) ∧ BytesAt w' w.heap.size x.2.bytes ∧ w.heap.size < w'.heap.size ∧ w.grownBy w' none := by
  have HF := Lib.hid (find_yes n k w h hf)
  obtain ⟨c0, c1, c2, z0, z1, z2⟩ := h.cells hx
  have HM := Lib.hid h
  have HX := Lib.hid hx
  have hl := (h.bytes x (List.mem_of_getElem? hx)).2.2.1
  have HXB := Lib.hid (h.bytes x (List.mem_of_getElem? hx)).1
  have hxl : x.1 < w.heap.size := HXB.out.lt
  clear h hf z0 z1 z2 hx
  obtain ⟨i0, hi, hz0, hz1, hz2⟩ := info_parts infoByte
  go_enter Try.func28, Try.ntmps28
  go_wp2_with fail
  refine (HF.out).mono ?_
  rintro e w0 ⟨rfl, rfl⟩
  go_wp2_with (first
    | (at_make; refine wpList_make_full _ rfl _ _ _ rfl w.heap.size 67 i0 _ 5 Try.underlying55 hi hz0 hz1 .i64 .i64 _ _ x.2.bytes.length rfl rfl rfl rfl (by rw [hz2]; omega) (by unfold maxLen; omega) (Nat.le_refl _) ?_; intro w2 hown hgr; have HO := Lib.hid hown; have HG := Lib.hid hgr; obtain ⟨d0, d1, d2, zz0, zz1, zz2⟩ := (HM.out.gr hgr).cells HX.out; clear hown hgr zz0 zz1 zz2)
    | ((with_reducible refine wpList_copy_bytes0 rfl (.tmp 18) (.tmp 22) rfl w.heap.size x.1 x.2.bytes.length _ _ rfl rfl (List.replicate x.2.bytes.length byt0) x.2.bytes (own_bytes (by rw [← made_bytes]; exact HO.out) rfl) (HXB.out.gr HG.out (by simp)) (by rw [List.length_replicate]) rfl ?_); intro w3 HB3 HG3))
  go_ret
  exact ⟨rfl, HB3.out, HB3.out.lt, gr_new HG.out HG3.out⟩
/-- What Bytes answers. -/
def bytesP (L : List (Nat × Blk)) (n : Int) : List Byt :=
  match findI L.length n with
  | none => []
  | some k => match L[k]? with
    | none => []
    | some x => x.2.bytes
/-- A list of bytes in a block of the call's own, or nil. -/
def ListAt (w W : World) (v : Value) (l : List Byt) : Prop :=
  (v = .slice none 0 0 ∧ l = []) ∨ ∃ g, v = .slice (some ⟨g, 0, none⟩) l.length l.length ∧ w.heap.size ≤ g ∧ BytesAt W g l
theorem bytes_any {B a : Nat} {row : Value} {L : List (Nat × Blk)} (n : Int) (w : World) (h : MemAt w B a row L) :
    Calls Try.prog 28 #[.pointer (some ⟨a, 0, none⟩), .int .i64 n] w fun e w' => ∃ v, e = .returned v ∧ ListAt w w' v (bytesP L n) ∧ w.grownBy w' none := by
  unfold bytesP
  rcases hf : findI L.length n with _ | k
  · exact (bytes_none _ n w (find_no n w h hf)).mono fun e w' ⟨he, hw⟩ => ⟨_, he, .inl ⟨rfl, rfl⟩, by rw [← hw]; exact grownBy_refl _ _⟩
  · obtain ⟨x, hx⟩ : ∃ x, L[k]? = some x := ⟨_, List.getElem?_eq_getElem (findI_some hf).2⟩
    obtain ⟨r, c, rfl, hbr, hrw⟩ := h.row_some (by have := (findI_some hf).2; omega)
    simp only [hx]
    exact (bytes_some n k w h hf hx).mono fun e w' ⟨he, hb, _, hg⟩ => ⟨_, he, .inr ⟨_, rfl, Nat.le_refl _, hb⟩, hg⟩

end Go.Proofs.Ytblhnjoophhliaa
