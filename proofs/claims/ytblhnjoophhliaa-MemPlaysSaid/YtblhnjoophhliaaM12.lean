/- mem: New, Alloc. -/
import Derived.Test.YtblhnjoophhliaaM11
namespace Go.Proofs.Ytblhnjoophhliaa
open Go.RowKit
set_option maxRecDepth 100000 in
set_option maxHeartbeats 4000000 in
theorem New_any (w : World) :
    Calls Try.prog 11 #[] w fun e w' => e = .returned (.pointer (some ⟨w.heap.size, 0, none⟩)) ∧ w' = w.alloc (.cells #[.slice none 0 0] 73) := by
  go_enter Try.func11, Try.ntmps11
  go_wp2_with fail
  go_ret
  exact ⟨rfl, rfl⟩
theorem MemAt.new (w : World) {B : Nat} (hB : B ≤ w.heap.size) : MemAt (w.alloc (.cells #[.slice none 0 0] 73)) B w.heap.size (.slice none 0 0) [] :=
  ⟨heap_alloc_new w _, ⟨rfl, .inl ⟨rfl, rfl⟩⟩, (fun _ h => by cases h), List.nodup_nil, by simp, hB⟩
def allB (size : Int) (len : Nat) : Bool := decide (0 ≤ size ∧ size ≤ 4096 ∧ len < 2000)
set_option maxRecDepth 100000 in
set_option maxHeartbeats 4000000 in
theorem alloc_nobody (site size : Int) (z : Bool) (w : World) :
    Calls Try.prog 13 #[.pointer none, .int .i64 site, .int .i64 size, .bool z] w fun e w' => e = .returned (.tuple #[.int .i64 0, .int .i64 5]) ∧ w = w' := by
  go_enter Try.func13, Try.ntmps13
  go_wp2_with fail
  go_ret2
  exact ⟨rfl, rfl⟩
set_option maxRecDepth 100000 in
set_option maxHeartbeats 4000000 in
theorem alloc_no {B a : Nat} {row : Value} {L : List (Nat × Blk)} (site size : Int) (z : Bool) (w : World) (h : MemAt w B a row L) (hs : allB size L.length = false) :
    Calls Try.prog 13 #[.pointer (some ⟨a, 0, none⟩), .int .i64 site, .int .i64 size, .bool z] w fun e w' => e = .returned (.tuple #[.int .i64 0, .int .i64 5]) ∧ w = w' := by
  obtain ⟨ad, c, rfl⟩ := h.row_form
  obtain ⟨h0, h1⟩ := h.hd
  have hsm := h.small
  have hs := of_decide_eq_false hs
  clear h
  by_cases e0 : size < 0
  · clear hs
    go_enter Try.func13, Try.ntmps13
    go_wp2_with fail
    go_ret2
    exact ⟨rfl, rfl⟩
  · by_cases e1 : 4096 < size
    · clear hs
      go_enter Try.func13, Try.ntmps13
      go_wp2_with fail
      go_ret2
      exact ⟨rfl, rfl⟩
    · have e2 : 2000 ≤ L.length := by omega
      clear hs
      go_enter Try.func13, Try.ntmps13
      go_wp2_with fail
      go_ret2
      exact ⟨rfl, rfl⟩
def newB (site : Int) (n : Nat) (z : Bool) : Blk := ⟨site, true, if z = true then nums 0 n else List.replicate n byt0⟩
theorem newB_len (site : Int) (n : Nat) (z : Bool) : (newB site n z).bytes.length = n := by unfold newB; cases z <;> simp [nums]
theorem newB_byts (site : Int) (n : Nat) (z : Bool) : Byts (newB site n z).bytes := by
  unfold newB
  cases z
  · exact zeros_byts n
  · intro b hb
    have := List.eq_of_mem_replicate hb
    subst this
    exact ⟨Int.le_refl _, by show (0 : Int) < 256; omega⟩
/-- A row of the call's own that holds something is a slice with an address. -/
theorem own_some {w : World} {base n size : Nat} {e : TypeId} {v : Value} {xs : List Value} (h : w.ownsRow base e size v n xs) (hn : 0 < n) : ∃ g c, v = .slice (some ⟨g, 0, none⟩) n c ∧ base ≤ g ∧ g < w.heap.size := by
  rcases h.2 with ⟨_, h0⟩ | ⟨g, c, cur, rfl, hb, hg, _⟩
  · omega
  · exact ⟨g, c, rfl, hb, lt_of_heap hg⟩
theorem setNumber0 (g n cap : Nat) (c : Int) (M : List Byt) (w : World) (hM : BytesAt w g M) (hn : M.length = n) (hs : n ≤ 4096) :
    Calls Try.prog 32 #[.slice (some ⟨g, 0, none⟩) n cap, .int .u8 c] w fun e w' => e = .returned (.tuple #[]) ∧ BytesAt w' g (nums c n) ∧ w.grownBy w' (some g) := by
  have h := setNumber_any g 0 n cap c M w hM (by omega) (by omega)
  have e : splice M 0 (nums c n) = nums c n := by
    unfold splice
    rw [List.take_zero, List.nil_append, List.drop_of_length_le (by rw [nums_len]; omega), List.append_nil]
  rw [e, Nat.zero_mul] at h
  exact h
theorem infoBlk : (Try.prog.info? 76).map (fun i => (i.zero, i.size, i.bytes)) = some (some (.agg #[.int .i64 0, .bool false, .slice none 0 0]), 3, 40) := by kernel_rfl
theorem MemAt.append {w w2 w3 w4 : World} {B a g n : Nat} {row v' : Value} {L : List (Nat × Blk)} {site : Int} {z : Bool} (h : MemAt w B a row L) (hL : L.length < 2000) (hg : w.heap.size ≤ g) (hn : n ≤ 4096)
    (h2 : w.grownBy w2 none) (hb : BytesAt w2 g (newB site n z).bytes) (h3 : w2.grownBy w3 none)
    (hown : w4.ownsRow B 76 3 v' (L.length + 1) (flatC rowC L ++ (rowC (g, newB site n z)).toList)) (hgr : w3.grownBy w4 row.ownBlock) :
    MemAt (w4.setCell ⟨a, 0, none⟩ v') B a v' (L ++ [(g, newB site n z)]) ∧ Fr w (w4.setCell ⟨a, 0, none⟩ v') a row L := by
  have hB : B ≤ w.heap.size := Nat.le_trans h.base (Nat.le_of_lt (lt_of_heap h.head))
  have h3' := h.gr (grownBy_trans h2 h3)
  have nrow : ∀ {i : Nat} {cs : Array Value} {t : TypeId}, w3.heap[i]? = some (.cells cs t (0, 0)) → t ≠ 76 → some i ≠ row.ownBlock := by
    intro i cs t hi ht e
    rcases h3'.rows.2 with ⟨e0, _⟩ | ⟨r, cap, cur, e0, _, hh, _⟩
    · rw [e0] at e; simp [Value.ownBlock] at e
    · rw [e0] at e; simp [Value.ownBlock] at e
      subst e
      rw [hh] at hi
      injection hi with hi
      injection hi with _ hi
      exact ht hi.symm
  have ha4 : w4.heap[a]? = some (.cells #[row] 73 (0, 0)) := (hgr.block a (lt_of_heap h3'.head) (nrow h3'.head (by decide))).trans h3'.head
  have hav : ∀ i, v'.ownBlock = some i → i ≠ a := by
    intro i hi e
    subst e
    rcases hown.2 with ⟨e0, _⟩ | ⟨r, cap, cur, e0, _, hh, _⟩
    · rw [e0] at hi; simp [Value.ownBlock] at hi
    · rw [e0] at hi; simp [Value.ownBlock] at hi
      subst hi
      rw [ha4] at hh
      injection hh with hh
      injection hh with _ hh
      exact absurd hh (by decide)
  have keep : ∀ i, i ≠ a → (w4.setCell ⟨a, 0, none⟩ v').heap[i]? = w4.heap[i]? := fun i hi => Below.heap_setCell _ _ _ _ hi
  have bk : ∀ {q : Nat} {M : List Byt}, BytesAt w3 q M → BytesAt (w4.setCell ⟨a, 0, none⟩ v') q M := by
    intro q M hq
    have h1 : BytesAt w4 q M := hq.gr hgr (nrow hq (by decide))
    refine (keep q ?_).trans h1
    intro e
    subst e
    rw [show w4.heap[q]? = _ from h1] at ha4
    injection ha4 with ha4
    injection ha4 with _ ha4
    exact absurd ha4 (by decide)
  have hb3 : BytesAt w3 g (newB site n z).bytes := hb.gr h3 (by simp)
  refine ⟨⟨?_, ?_, ?_, ?_, by rw [List.length_append]; simp; omega, h.base⟩, ?_⟩
  · simp [World.setCell, Array.getElem?_modify, ha4]
  · rw [List.length_append, flat_app]
    refine ⟨by have := hown.1; simpa [flatC] using this, hown.2.imp id ?_⟩
    rintro ⟨r, cap, cur, e0, hr, hh, q⟩
    exact ⟨r, cap, cur, e0, hr, (keep r (hav r (by rw [e0]; rfl))).trans hh, by simpa [flatC] using q⟩
  · intro x hx
    rcases List.mem_append.1 hx with hx | hx
    · obtain ⟨b1, b2⟩ := h3'.bytes x hx
      exact ⟨bk b1, b2⟩
    · obtain rfl := List.mem_singleton.1 hx
      exact ⟨bk hb3, by show B ≤ g; omega, by show (newB site n z).bytes.length ≤ 4096; rw [newB_len]; exact hn, newB_byts _ _ _⟩
  · rw [List.map_append, List.nodup_append]
    refine ⟨h.apart, by simp, ?_⟩
    intro p hp q hq e
    obtain rfl : q = g := by simpa using hq
    subst e
    obtain ⟨x, hx, e⟩ := List.mem_map.1 hp
    have := (h.bytes x hx).1.lt
    omega
  · refine ⟨hgr.os.trans (h3.os.trans h2.os), hgr.tape.trans (h3.tape.trans h2.tape), hgr.output.trans (h3.output.trans h2.output), by rw [show (w4.setCell ⟨a, 0, none⟩ v').heap.size = w4.heap.size by simp [World.setCell]]; exact Nat.le_trans h2.size (Nat.le_trans h3.size hgr.size), fun k hk hnf => ?_⟩
    have hka : k ≠ a := fun e => hnf (.inl e)
    have hkr : some k ≠ row.ownBlock := fun e => hnf (.inr (.inl e.symm))
    rw [keep k hka, hgr.block k (Nat.lt_of_lt_of_le hk (Nat.le_trans h2.size h3.size)) hkr, h3.block k (Nat.lt_of_lt_of_le hk h2.size) (by simp), h2.block k hk (by simp)]
theorem rows_alloc {w w2 : World} {B a : Nat} {row : Value} {ad : Option Addr} {c : Nat} {L : List (Nat × Blk)} (h : MemAt w B a row L) (hr : row = .slice ad L.length c) (hg : w.grownBy w2 none) (o : Obj) :
    (w2.alloc o).ownsRow B 76 3 (.slice ad L.length c) L.length (flatC rowC L) := by
  have := (h.gr (gr_alloc hg o)).rows
  rwa [hr] at this
theorem three_cells (w : World) (x y z : Value) (t : TypeId) : ∀ (j : Nat) (u : Value), [x, y, z][j]? = some u → (w.alloc (.cells #[x, y, z] t)).cell? ((⟨w.heap.size, 0, none⟩ : Addr).add j) = some u := by
  intro j u hu
  have e := heap_alloc_new w (.cells #[x, y, z] t)
  rw [show (⟨w.heap.size, 0, none⟩ : Addr).add j = ⟨w.heap.size, j, none⟩ by unfold Addr.add; split <;> simp_all]
  simp only [World.cell?, e]
  rcases j with _ | _ | _ | j
  · simpa using hu
  · simpa using hu
  · simpa using hu
  · simp at hu
theorem three_one {s : Int} {b : Bool} {ad : Option Addr} {n c : Nat} : ∀ u ∈ [Value.int .i64 s, .bool b, .slice ad n c], u.oneCell' = true := by
  intro u hu
  simp at hu
  rcases hu with rfl | rfl | rfl <;> rfl
theorem hd_after {w w2 w4 : World} {B a : Nat} {row : Value} {ad : Option Addr} {c : Nat} {L : List (Nat × Blk)} (h : MemAt w B a row L) (hr : row = .slice ad L.length c) (hg : w.grownBy w2 none) (o : Obj) (h4 : (w2.alloc o).grownBy w4 (Value.slice ad L.length c).ownBlock) :
    w4.cell? ⟨a, 0, none⟩ = some (.slice ad L.length c) ∧ w4.frozen? ⟨a, 0, none⟩ = false := by
  have h3 := h.gr (gr_alloc hg o)
  have e : w4.heap[a]? = (w2.alloc o).heap[a]? := h4.block a (lt_of_heap h3.head) (fun e => by
    rcases h3.rows.2 with ⟨e0, _⟩ | ⟨r, cap, cur, e0, _, hh, _⟩
    · rw [hr] at e0; rw [e0] at e; simp [Value.ownBlock] at e
    · rw [hr] at e0; rw [e0] at e; simp [Value.ownBlock] at e
      subst e
      have := h3.head
      rw [hh] at this
      injection this with this
      injection this with _ this
      exact absurd this (by decide))
  rw [h3.head, hr] at e
  constructor <;> simp [World.cell?, World.frozen?, e]
set_option maxRecDepth 100000 in
set_option maxHeartbeats 4000000 in
theorem alloc_yes {B a : Nat} {row : Value} {L : List (Nat × Blk)} (site : Int) (n : Nat) (z : Bool) (w : World) (h : MemAt w B a row L) (hn : n ≤ 4096) (hL : L.length < 2000) :
    Calls Try.prog 13 #[.pointer (some ⟨a, 0, none⟩), .int .i64 site, .int .i64 n, .bool z] w fun e w' => e = .returned (.tuple #[.int .i64 (L.length + 1), .int .i64 0]) ∧
      ∃ row', MemAt w' B a row' (L ++ [(w.heap.size, newB site n z)]) ∧ Fr w w' a row L := by
  obtain ⟨ad, c, hrow⟩ := h.row_form
  obtain ⟨h0, h1⟩ := h.hd
  have ha := lt_of_heap h.head
  have hB : B ≤ w.heap.size := Nat.le_trans h.base (Nat.le_of_lt ha)
  have HM := Lib.hid h
  have HR := Lib.hid hrow
  rw [hrow] at h0
  clear h hrow
  obtain ⟨i0, hi, hz0, hz1, hz2⟩ := info_parts infoByte
  obtain ⟨j0, hj, hy0, hy1, hy2⟩ := info_parts infoBlk
  have e0 : decide ((n : Int) < 0) = false := decide_eq_false (by omega)
  have e1 : decide (4096 < (n : Int)) = false := decide_eq_false (by omega)
  have e2 : decide (2000 ≤ (L.length : Int)) = false := decide_eq_false (by omega)
  cases z
  · go_enter Try.func13, Try.ntmps13
    go_wp2_with (first
      | (at_make; refine wpList_make_full _ rfl _ _ _ rfl w.heap.size 67 i0 _ 5 Try.underlying55 hi hz0 hz1 .i64 .i64 _ _ n rfl rfl rfl rfl (by rw [hz2]; omega) (by unfold maxLen; omega) (Nat.le_refl _) ?_; intro w2 hown hgr; have HO := Lib.hid hown; have HG := Lib.hid hgr; obtain ⟨d0, d1⟩ := (HM.out.gr hgr).hd; rw [HR.out] at d0; have hw2 : w.heap.size < w2.heap.size := (own_bytes (by rw [← made_bytes]; exact hown) rfl).lt; have HRW := Lib.hid (fun o => rows_alloc HM.out HR.out hgr o); clear hown hgr)
      | (at_builtin; refine wpList_append_own _ rfl (.tmp 38) (.tmp 42) 71 rfl B 76 j0 _ 3 40 Try.underlying71 hj hy0 hy1 hy2 rfl (by decide) _ L.length (flatC rowC L) rfl (HRW.out _) ⟨w2.heap.size, 0, none⟩ 1 1 [.int .i64 site, .bool true, .slice (some ⟨w.heap.size, 0, none⟩) n n] rfl rfl (three_cells _ _ _ _ _) three_one (by unfold maxLen; omega) (by omega) (by simp; omega) ?_; intro v' w4 hown4 hgr4 _; obtain ⟨r', c', rfl, hr1, hr2⟩ := own_some hown4 (by omega); have HO4 := Lib.hid hown4; have HG4 := Lib.hid hgr4; obtain ⟨d0, d1⟩ := hd_after HM.out HR.out HG.out _ hgr4; clear hown4 hgr4))
    go_ret2
    exact ⟨rfl, _, MemAt.append (g := w.heap.size) (n := n) (site := site) (z := false) HM.out hL (Nat.le_refl _) hn HG.out (own_bytes (by rw [← made_bytes]; exact HO.out) rfl) (gr_alloc (grownBy_refl w2 none) _)
      (by have := HO4.out; unfold rowC; dsimp only; rw [newB_len]; exact this) (by rw [HR.out]; exact HG4.out)⟩
  · go_enter Try.func13, Try.ntmps13
    go_wp2_with (first
      | (at_make; refine wpList_make_full _ rfl _ _ _ rfl w.heap.size 67 i0 _ 5 Try.underlying55 hi hz0 hz1 .i64 .i64 _ _ n rfl rfl rfl rfl (by rw [hz2]; omega) (by unfold maxLen; omega) (Nat.le_refl _) ?_; intro w2 hown hgr; have HO := Lib.hid hown; have HG := Lib.hid hgr; clear hown hgr))
    refine (setNumber0 w.heap.size n n 0 (List.replicate n byt0) w2 (own_bytes (by rw [← made_bytes]; exact HO.out) rfl) List.length_replicate hn).mono ?_
    rintro e w3 ⟨rfl, hb3, g3⟩
    have HB3 := Lib.hid hb3
    have HG3 := Lib.hid (gr_new HG.out g3)
    have hw3 : w.heap.size < w3.heap.size := hb3.lt
    obtain ⟨d0, d1⟩ := (HM.out.gr HG3.out).hd
    rw [HR.out] at d0
    have HRW := Lib.hid (fun o => rows_alloc HM.out HR.out HG3.out o)
    clear hb3 g3 HG HO
    go_wp2_with
      (at_builtin; refine wpList_append_own _ rfl (.tmp 38) (.tmp 42) 71 rfl B 76 j0 _ 3 40 Try.underlying71 hj hy0 hy1 hy2 rfl (by decide) _ L.length (flatC rowC L) rfl (HRW.out _) ⟨w3.heap.size, 0, none⟩ 1 1 [.int .i64 site, .bool true, .slice (some ⟨w.heap.size, 0, none⟩) n n] rfl rfl (three_cells _ _ _ _ _) three_one (by unfold maxLen; omega) (by omega) (by simp; omega) ?_; intro v' w4 hown4 hgr4 _; obtain ⟨r', c', rfl, hr1, hr2⟩ := own_some hown4 (by omega); have HO4 := Lib.hid hown4; have HG4 := Lib.hid hgr4; obtain ⟨d0, d1⟩ := hd_after HM.out HR.out HG3.out _ hgr4; clear hown4 hgr4)
    go_ret2
    exact ⟨rfl, _, MemAt.append (g := w.heap.size) (n := n) (site := site) (z := true) HM.out hL (Nat.le_refl _) hn HG3.out HB3.out (gr_alloc (grownBy_refl w3 none) _)
      (by have := HO4.out; unfold rowC; dsimp only; rw [newB_len]; exact this) (by rw [HR.out]; exact HG4.out)⟩
def allocP (L : List (Nat × Blk)) (g : Nat) (site size : Int) (z : Bool) : List (Nat × Blk) × Int × Int :=
  if allB size L.length = true then (L ++ [(g, newB site size.toNat z)], (L.length : Int) + 1, 0) else (L, 0, 5)
theorem alloc_any {B a : Nat} {row : Value} {L : List (Nat × Blk)} (site size : Int) (z : Bool) (w : World) (h : MemAt w B a row L) :
    Calls Try.prog 13 #[.pointer (some ⟨a, 0, none⟩), .int .i64 site, .int .i64 size, .bool z] w fun e w' => e = .returned (.tuple #[.int .i64 (allocP L w.heap.size site size z).2.1, .int .i64 (allocP L w.heap.size site size z).2.2]) ∧
      ∃ row', MemAt w' B a row' (allocP L w.heap.size site size z).1 ∧ Fr w w' a row L := by
  unfold allocP
  by_cases hs : allB size L.length = true
  · rw [if_pos hs]
    have h1 := of_decide_eq_true (show decide _ = true from hs)
    obtain ⟨n, rfl⟩ : ∃ n : Nat, size = n := ⟨size.toNat, by omega⟩
    rw [Int.toNat_natCast]
    exact alloc_yes site n z w h (by omega) (by omega)
  · rw [if_neg hs]
    exact (alloc_no site size z w h (by simpa using hs)).mono fun e w' ⟨he, hw⟩ => ⟨he, row, by rw [← hw]; exact h, by rw [← hw]; exact Fr.of_gr (grownBy_refl _ _)⟩

end Go.Proofs.Ytblhnjoophhliaa
