/- unite: New. -/
import Derived.Test.YteblcmebhfjbnaaUc
import Derived.Laws.MakeOwn
namespace Go.Proofs.Yteblcmebhfjbnaa
open Go.RowKit
theorem infoNode : (Try.prog.info? 45).map (fun i => (i.zero, i.size, i.bytes)) = some (some (.agg #[.int .i64 0, .int .i64 0, .int .i64 0]), 3, 24) := by kernel_rfl
theorem made_flat (n : Nat) : madeCells #[Value.int .i64 0, .int .i64 0, .int .i64 0] (n * 3) = (flatC ndC (List.replicate n ((0, 0, 0) : Nd))).toArray := by
  apply Array.ext
  · rw [size_madeCells, List.size_toArray, flat_len ndC_size, List.length_replicate]
  · intro i h1 h2
    rw [size_madeCells] at h1
    have e1 : (madeCells #[Value.int .i64 0, .int .i64 0, .int .i64 0] (n * 3))[i]? = some (.int .i64 0) := by
      unfold madeCells
      rw [Array.getElem?_map, Array.getElem?_range, if_pos h1, Option.map_some]
      have h3 : i % 3 < 3 := Nat.mod_lt _ (by omega)
      show some (#[Value.int .i64 0, .int .i64 0, .int .i64 0][i % 3]!) = _
      generalize i % 3 = j at h3
      have : j = 0 ∨ j = 1 ∨ j = 2 := by omega
      rcases this with rfl | rfl | rfl <;> rfl
    have e2 : (flatC ndC (List.replicate n ((0, 0, 0) : Nd)))[i]? = some (.int .i64 0) := by
      have h3 : i % 3 < 3 := Nat.mod_lt _ (by omega)
      have h4 : i = i / 3 * 3 + i % 3 := by omega
      have h5 : i / 3 < n := by omega
      rw [h4, flat_at ndC_size _ _ _ h3, List.getElem?_replicate, if_pos h5]
      generalize i % 3 = j at h3
      have : j = 0 ∨ j = 1 ∨ j = 2 := by omega
      rcases this with rfl | rfl | rfl <;> rfl
    have f1 := Array.getElem?_eq_some_iff.1 e1
    have f2 := List.getElem?_eq_some_iff.1 e2
    rw [f1.2, List.getElem_toArray, f2.2]
theorem run_make_nodes (n : Nat) (h : n ≤ 100000) (w : World) :
    (Instr.makeSlice 41 (.int .i64 (n : Int)) (.int .i64 (n : Int))).run Try.prog w = .ok (.slice (some ⟨w.heap.size, 0, none⟩) n n) (w.alloc (.cells (flatC ndC (List.replicate n ((0, 0, 0) : Nd))).toArray 45)) := by
  obtain ⟨i0, hi, hz0, hz1, hz2⟩ := info_parts infoNode
  have hr := run_make (P := Try.prog) w 41 45 i0 _ Try.underlying41 hi hz0 .i64 .i64 (n : Int) (n : Int) (by omega) (by omega) (by rw [hz2]; omega) (by omega)
  rw [hz1, Int.toNat_natCast] at hr
  rw [hr, ← made_flat]
  rfl
/-- The first q nodes are laid. -/
def parN (n q : Nat) : List Nd := ndF q ++ List.replicate (n - q) (0, 0, 0)
theorem parN_first (n : Nat) : parN n 0 = List.replicate n (0, 0, 0) := by unfold parN ndF; simp
theorem parN_last (n : Nat) : parN n n = ndF n := by unfold parN; simp
theorem parN_at {n q : Nat} (h : q < n) : (parN n q)[q]? = some (0, 0, 0) := by
  unfold parN
  rw [List.getElem?_append_right (by rw [ndF_len]; exact Nat.le_refl _), ndF_len, Nat.sub_self, List.getElem?_replicate, if_pos (by omega)]
theorem parN_next {n q : Nat} (h : q < n) : parN n (q + 1) = (parN n q).set q (q, 1, q) := by
  unfold parN
  have e : List.replicate (n - q) ((0, 0, 0) : Nd) = (0, 0, 0) :: List.replicate (n - (q + 1)) (0, 0, 0) := by
    rw [show n - q = n - (q + 1) + 1 by omega, List.replicate_succ]
  rw [e, List.set_append_right _ _ (by rw [ndF_len]; exact Nat.le_refl _), ndF_len, Nat.sub_self, List.set_cons_zero]
  have : ndF (q + 1) = ndF q ++ [(q, 1, q)] := by unfold ndF; rw [List.range_succ, List.map_append]; rfl
  rw [this, List.append_assoc]
  rfl
theorem cnt_first (n : Nat) : cntG (List.range n) = n := by
  unfold cntG
  rw [List.length_range, cntP_congr (q := fun _ => true) (fun i hi => by rw [range_at hi]; simp)]
  induction n with
  | zero => rfl
  | succ n ih => rw [cntP, ih]; rfl
set_option maxRecDepth 100000 in
set_option maxHeartbeats 4000000 in
theorem New14 (n : Int) (W : World) :
    Calls Try.prog 10 #[.int .i64 n] W fun e w' => ∃ m F, e = .returned (.pointer (some ⟨m, 0, none⟩)) ∧ GrpAt w' F m (List.range (szN n)) ∧ W.grownBy w' none ∧ ∀ k, F k → W.heap.size ≤ k := by
  obtain ⟨q, hq⟩ : ∃ q, q = szN n := ⟨_, rfl⟩
  have hqb : q ≤ 100000 := by rw [hq]; unfold szN; split <;> (try split) <;> omega
  rw [← hq]
  have hmk := run_make_nodes q hqb
  obtain ⟨p, hp⟩ : ∃ p, (if n < 0 then 0 else n) = p := ⟨_, rfl⟩
  have hmm : (if (100000 : Int) < p then 100000 else p) = (q : Int) := by
    rw [hq, ← hp]; unfold szN; split <;> (try split) <;> omega
  clear hq
  have H0 := Lib.hid (show ∀ w1, w1 = (W.alloc (Obj.cells (flatC ndC (List.replicate q ((0, 0, 0) : Nd))).toArray 45)).alloc (Obj.cells #[Value.slice (some { block := W.heap.size, off := 0 }) q q, Value.int IntKind.i64 (q : Int)] 43) → NdB w1 W.heap.size (parN q 0) ∧ HdB w1 (W.heap.size + 1) W.heap.size q q ∧ W.grownBy w1 none from fun w1 hw => by
    subst hw
    refine ⟨?_, ?_, by repeat (first | with_reducible exact grownBy_refl _ _ | with_reducible assumption | with_reducible refine World.grownBy.gr_drew ?_ | with_reducible refine World.grownBy.gr_set ?_ (by simp) _ | with_reducible refine gr_alloc ?_ _)⟩
    · unfold NdB
      rw [Below.heap_alloc _ _ _ (by simp), heap_alloc_new, parN_first]
    · unfold HdB
      have := heap_alloc_new (W.alloc (Obj.cells (flatC ndC (List.replicate q ((0, 0, 0) : Nd))).toArray 45)) (Obj.cells #[Value.slice (some { block := W.heap.size, off := 0 }) q q, Value.int IntKind.i64 (q : Int)] 43)
      rw [World.size_alloc] at this
      exact this)
  obtain ⟨b, hb⟩ : ∃ b, b = W.heap.size := ⟨_, rfl⟩
  have HB := Lib.hid hb
  go_enter Try.func10, Try.ntmps10
  go_wp2_with fail
  generalize hW1 : (W.alloc (Obj.cells (flatC ndC (List.replicate q ((0, 0, 0) : Nd))).toArray 45)).alloc _ = W1
  obtain ⟨h1, h2, h3⟩ := H0.out W1 hW1.symm
  rw [← hb] at h1 h2 ⊢
  have H1 := Lib.hid h1
  have H2 := Lib.hid h2
  have H3 := Lib.hid h3
  have hbm : W.heap.size ≤ b := by omega
  clear hmk hp hmm H0 hW1 h1 h2 h3 hb
  go_loopw [14] (fun i wr => ∃ k : Nat, k ≤ q ∧ i = .int .i64 k ∧ NdB wr b (parN q k) ∧ HdB wr (b + 1) b q q ∧ W.grownBy wr none) (fun i _ => q - (intOf i).toNat)
  case atStart => exact ⟨0, Nat.zero_le _, rfl, H1.out, H2.out, H3.out⟩
  case round =>
    obtain ⟨k, hk, rfl, h1, h2, h3⟩ := hrel
    have H4 := Lib.hid h3
    by_cases hlt : k < q
    · obtain ⟨d0, d1, d2⟩ := h1.cells (parN_at hlt)
      obtain ⟨c0, c1⟩ := h2.cells
      have f0 := h1.frz (k * 3)
      have f1 := h1.frz (k * 3 + 1)
      have f2 := h1.frz (k * 3 + 2)
      have H5 := Lib.hid h1
      have H6 := Lib.hid h2
      have H7 := Lib.hid (parN_next hlt)
      clear h1 h2 h3 c1
      go_wp2_with fail
      go_roundw
      case rel =>
        have hkl : k < (parN q k).length := (List.getElem?_eq_some_iff.1 (parN_at hlt)).1
        refine ⟨k + 1, hlt, by go_num, ?_, ?_, ?_⟩
        · rw [H7.out]
          have p1 := H5.out.par (parN_at hlt) k
          have p2 := p1.siz (k := k) (p := k) (s := 0) (t := 0) (by rw [List.getElem?_set_self hkl]) 1
          have p3 := p2.lst (k := k) (p := k) (s := 1) (t := 0) (by rw [List.getElem?_set_self (by rw [List.length_set]; exact hkl)]) k
          rw [List.set_set, List.set_set] at p3
          exact p3
        · exact ((H6.out.off (by show b ≠ b + 1; omega) _).off (by show b ≠ b + 1; omega) _).off (by show b ≠ b + 1; omega) _
        · exact ((H4.out.gr_set (by show W.heap.size ≤ b; omega) _).gr_set (by show W.heap.size ≤ b; omega) _).gr_set (by show W.heap.size ≤ b; omega) _
      case measure => simp [intOf]; omega
    · obtain rfl : k = q := by omega
      rw [parN_last] at h1
      have H5 := Lib.hid h1
      have H6 := Lib.hid h2
      clear h1 h2 h3
      go_wp2_with fail
      go_ret
      refine ⟨b + 1, fun k => k = b ∨ k = b + 1, rfl, ?_, H4.out, fun k hk => by omega⟩
      have e1 := lt_of_heap H5.out
      have e2 := lt_of_heap H6.out
      exact ⟨.inr rfl, fun j hj => by omega, ⟨range_ok _, by rw [List.length_range]; exact hqb⟩, b, ndF k, UF.first k, by omega, .inl rfl, by rw [List.length_range, cnt_first]; exact H6.out, H5.out⟩

end Go.Proofs.Yteblcmebhfjbnaa
