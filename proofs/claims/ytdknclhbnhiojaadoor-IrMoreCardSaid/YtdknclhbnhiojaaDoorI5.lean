/- ir: Reads, walked. -/
import Derived.Test.YtdknclhbnhiojaaDoorI4
namespace Go.Proofs.YtdknclhbnhiojaaDoor
open Go.RowKit
theorem info3 : (Tryd.prog.info? 3).map (fun i => (i.zero, i.size, i.bytes)) = some (some (.int .i64 0), 1, 8) := by kernel_rfl
theorem info_parts {o : Option TypeInfo} {z : Option Value} {s b : Nat} (h : o.map (fun i => (i.zero, i.size, i.bytes)) = some (z, s, b)) : ∃ i, o = some i ∧ i.zero = z ∧ i.size = s ∧ i.bytes = b := by
  cases o with
  | none => cases h
  | some i => simp only [Option.map_some, Option.some.injEq, Prod.mk.injEq] at h; exact ⟨i, rfl, h.1, h.2.1, h.2.2⟩
theorem iterPos_of {w : World} {k : Nat} {s : ByteArray} {p : Nat} (h : w.heap[k]? = some (.stringIter s p)) : w.iterPos k = p := by simp [World.iterPos, h]
def ascii (s : ByteArray) : Prop := ∀ (k : Nat) (h : k < s.size), (s[k]'h).toNat < 128
theorem ascii_row (op : Int) : ascii (rowB op) := by
  by_cases h : 0 ≤ op ∧ op < 21
  · rcases op_cases h.1 h.2 with rfl | rfl | rfl | rfl | rfl | rfl | rfl | rfl | rfl | rfl | rfl | rfl | rfl | rfl | rfl | rfl | rfl | rfl | rfl | rfl | rfl
    all_goals (unfold ascii; decide +kernel)
  · unfold rowB
    rw [rowL_out h]
    intro k h
    exact absurd h (by simp [ByteArray.size])
set_option maxRecDepth 100000 in
set_option maxHeartbeats 4000000 in
theorem Reads_any (i : Ins) (w : World) (hv : VarsR w) (hA : IntsAt w i.aa i.an i.ac i.args) (hlen : (readsI i).length * 8 ≤ 140737488355328) :
    Calls Tryd.prog 10 #[insV i] w fun e w' => RetInts w (readsI i) e w' := by
  have HV := Lib.hid hv
  have HA := Lib.hid hA
  have hasc := ascii_row i.op
  have HL := Lib.hid (show (readsS i (rowB i.op).data.toList).length * 8 ≤ 140737488355328 from hlen)
  rw [show readsI i = readsS i (rowB i.op).data.toList from rfl]
  generalize hs : rowB i.op = s at hasc HL ⊢
  have HAS := Lib.hid hasc
  have HS := Lib.hid hs
  clear hs hasc hlen hA hv
  unfold insV insC
  go_enter Tryd.func10, Tryd.ntmps10
  go_wp2_with fail
  refine (row_any _ _ (HV.out.alloc _)).mono ?_
  rintro e w1 ⟨rfl, rfl⟩
  rw [HS.out]
  go_wp2_with fail
  go_loopw [3] (fun v wr => RdRel i s w v wr) (fun _ wr => s.size - wr.iterPos (w.heap.size + 1))
  case atStart =>
    refine ⟨0, Nat.zero_le _, ?_, own_nil _ _ _ _, gr_alloc (by repeat (first | with_reducible exact grownBy_refl _ _ | with_reducible assumption | with_reducible refine World.grownBy.gr_drew ?_ | with_reducible refine World.grownBy.gr_set ?_ (by simp) _ | with_reducible refine gr_alloc ?_ _)) _, ?_⟩
    · have h := heap_alloc_new (w.alloc (.cells (insC i) 24)) (.stringIter s 0)
      rw [show (w.alloc (.cells (insC i) 24)).heap.size = w.heap.size + 1 by simp] at h
      exact h
    · have h := heap_alloc_new w (.cells (insC i) 24)
      exact (Below.heap_alloc _ _ _ (by simp)).trans h
  case round =>
    obtain ⟨pos, hpos, hit, hown, hgr, hbox⟩ := hrel
    have HIT := Lib.hid hit
    have HO := Lib.hid hown
    have HG := Lib.hid hgr
    have HB := Lib.hid hbox
    clear hit hown hgr hbox
    by_cases hp : pos < s.size
    · have hc := HAS.out pos hp
      obtain ⟨W2, hW2⟩ : ∃ W2, W2 = wr.putObj (w.heap.size + 1) (.stringIter s (pos + 1)) := ⟨_, rfl⟩
      have hnx : ∀ ty, (Instr.next (.pointer (some ⟨w.heap.size + 1, 0, none⟩)) true ty).run Tryd.prog wr = .ok (.tuple #[.bool true, .int .i64 pos, .int .i32 (s[pos]'hp).toNat]) W2 := fun ty => by rw [hW2]; exact next_at _ _ _ _ _ HIT.out hp hc
      have hb1 := lt_of_heap HIT.out
      have HIT2 := Lib.hid (show W2.heap[w.heap.size + 1]? = some (.stringIter s (pos + 1)) by rw [hW2]; exact World.putObj_heap_same hb1)
      have HO2 := Lib.hid (show W2.ownsRow (w.heap.size + 2) 3 1 u3 (readsS i (s.data.toList.take pos)).length (intsV (readsS i (s.data.toList.take pos))) from own_keep HO.out (fun g hg _ => by rw [hW2]; exact World.putObj_heap_other (show g ≠ w.heap.size + 1 by omega)))
      have HG2 := Lib.hid (show w.grownBy W2 none by rw [hW2]; exact gr_put HG.out (by omega) _)
      have hbox2 : BoxI i w.heap.size W2 := HB.out.to (by rw [hW2]; exact World.putObj_heap_other (by omega))
      have HB2 := Lib.hid hbox2
      obtain ⟨c0, c1, c2, c3, c4, c5, c6, c7⟩ := hbox2.cells
      have HM := Lib.hid (iterPos_of HIT.out)
      generalize hch : ((s[pos]'hp).toNat : Int) = ch at hnx
      have HCH := Lib.hid hch
      clear hW2 HIT HO HG HB hb1 hbox2 hch hc
      go_wp2_with fail
      refine (show Calls Tryd.prog 19 #[.agg #[.int .i64 i.op, .int .i64 i.a, .int .i64 i.b, .int .i64 i.c, .int .i64 i.w, .int .i64 i.n, .string i.sign, .slice i.aa i.an i.ac], .int .i32 ch] W2 _ from read_any i ch W2 (HA.out.keep (CellsK.of HG2.out))).mono ?_
      rintro e w3 ⟨A, n, c, rfl, hI, hg3⟩
      have HIT3 := Lib.hid (show w3.heap[w.heap.size + 1]? = some (.stringIter s (pos + 1)) from (hg3.block _ (lt_of_heap HIT2.out) (by simp)).trans HIT2.out)
      have HO3 := Lib.hid (own_gr HO2.out hg3)
      have HG3 := Lib.hid (grownBy_trans HG2.out hg3)
      have HB3 := Lib.hid (HB2.out.gr hg3)
      have HI := Lib.hid hI
      have hsz3 : w.heap.size + 2 ≤ w3.heap.size := by have := lt_of_heap HIT3.out; omega
      have hll : ((readsS i (s.data.toList.take pos)).length + (readL i ch).length) * 8 ≤ 140737488355328 := by
        have h1 := readsS_len i s.data.toList (pos + 1)
        rw [readsS_take i s pos hp, HCH.out, List.length_append] at h1
        have h2 := HL.out
        omega
      have HR := Lib.hid (readsS_take i s pos hp)
      rw [HCH.out] at HR
      generalize readL i ch = lr at *
      generalize readsS i (s.data.toList.take pos) = la at *
      obtain ⟨i0, hi, hz0, hz1, hz2⟩ := info_parts info3
      clear hI hg3 HIT2 HO2 HG2 HB2 c0 c1 c2 c3 c4 c5 c6 c7 hnx
      obtain ⟨hn, hA⟩ := HI.out
      subst hn
      rcases hA with ⟨rfl, hn, rfl⟩ | ⟨ad, rfl, hcell⟩
      · have hl0 : lr = [] := List.eq_nil_of_length_eq_zero hn
        clear hn HI
        subst hl0
        go_wp2_with (at_builtin; go_must (refine wpList_append_own_none rfl (.tmp 13) (.tmp 16) 22 rfl (w.heap.size + 2) 3 i0 1 Tryd.underlying22 hi u3 la.length (intsV la) rfl HO3.out rfl ?_))
        clear hi hz0 hz1 hz2
        go_wp2_with fail
        go_roundw
        case rel => exact ⟨pos + 1, hp, HIT3.out, by rw [HR.out, List.append_nil]; exact HO3.out, HG3.out, HB3.out⟩
        case measure => rw [HM.out, iterPos_of HIT3.out]; omega
      · go_wp2_with (at_builtin; go_must (refine wpList_append_own _ rfl (.tmp 13) (.tmp 16) 22 rfl (w.heap.size + 2) 3 i0 _ 1 8 Tryd.underlying22 hi hz0 hz1 hz2 rfl (by decide) u3 la.length (intsV la) rfl HO3.out ad lr.length c (intsV lr) rfl ?_ ?_ ?_ ?_ ?_ ?_ ?_))
        · rw [intsV_length, Nat.mul_one]
        · intro j u hu
          simp only [intsV, List.getElem?_map, Option.map_eq_some_iff] at hu
          obtain ⟨x, hx, rfl⟩ := hu
          exact hcell j x hx
        · exact intsV_one lr
        · unfold maxLen; omega
        · omega
        · omega
        intro v' w4 hown' hgrow _
        have HO4 := Lib.hid hown'
        have hb3 := lt_of_heap HIT3.out
        have HIT4 := Lib.hid (show w4.heap[w.heap.size + 1]? = some (.stringIter s (pos + 1)) from (hgrow.block _ hb3 (fun e => by have := (own_at HO3.out e.symm).1; omega)).trans HIT3.out)
        have HG4 := Lib.hid (gr_own HG3.out hgrow (fun k hk => by have := (own_at HO3.out hk).1; omega))
        have HB4 := Lib.hid (HB3.out.to (hgrow.block _ (by omega) (fun e => by have := (own_at HO3.out e.symm).1; omega)))
        clear hown' hgrow hi hz0 hz1 hz2 hcell HI
        go_wp2_with fail
        go_roundw
        case rel => exact ⟨pos + 1, hp, HIT4.out, by rw [HR.out, intsV_append, List.length_append]; exact HO4.out, HG4.out, HB4.out⟩
        case measure => rw [HM.out, iterPos_of HIT4.out]; omega
    · have hnx : ∀ ty, (Instr.next (.pointer (some ⟨w.heap.size + 1, 0, none⟩)) true ty).run Tryd.prog wr = _ := fun ty => next_end wr _ _ _ ty HIT.out hp
      have hls : s.data.toList.length = s.size := by simp
      have HT := Lib.hid (show s.data.toList.take pos = s.data.toList from List.take_of_length_le (by omega))
      clear hls
      obtain ⟨A, n, c, rfl, hI⟩ := IntsAt.of_own HO.out
      rw [HT.out] at hI
      have HI := Lib.hid hI
      clear hI
      go_wp2_with fail
      go_ret
      exact RetInts.mk HI.out HG.out

end Go.Proofs.YtdknclhbnhiojaaDoor
