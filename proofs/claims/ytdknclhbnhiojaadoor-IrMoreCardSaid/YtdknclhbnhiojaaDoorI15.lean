/- ir: operands: a row's letters, one by one. -/
import Derived.Test.YtdknclhbnhiojaaDoorI14
namespace Go.Proofs.YtdknclhbnhiojaaDoor
open Go.RowKit
def letB (p : Prg) (f : Fun') (i : Ins) (c : Int) : Bool := allB f.regs (readL i c) && (opdB p f i c && (!(c == 61) || inB i.a f.regs))
def opsS (p : Prg) (f : Fun') (i : Ins) (l : List UInt8) : Bool := l.all fun c => letB p f i (c.toNat : Int)
def opsB (p : Prg) (f : Fun') (i : Ins) : Bool := opsS p f i (rowL i.op)
theorem readL_len (i : Ins) (c : Int) (h : i.args.length * 8 ≤ 140737488351232) : (readL i c).length ≤ maxLen := by
  unfold maxLen readL
  repeat' split
  all_goals (simp; try omega)
/-- The three boxes. -/
structure OpBox (p : Prg) (f : Fun') (i : Ins) (b : Nat) (w : World) : Prop where
  p : BoxC (prgC p) 34 b w
  f : BoxC (funC f) 43 (b + 1) w
  i : BoxC (insC i) 24 (b + 2) w
theorem OpBox.gr {p : Prg} {f : Fun'} {i : Ins} {b : Nat} {w w' : World} (h : OpBox p f i b w) (g : w.grownBy w' none) : OpBox p f i b w' := ⟨h.p.gr g, h.f.gr g, h.i.gr g⟩
theorem BoxC.to {C : Array Value} {t b : Nat} {w w' : World} (h : BoxC C t b w) (hk : w'.heap[b]? = w.heap[b]?) : BoxC C t b w' := hk.trans h
theorem OpBox.new (p : Prg) (f : Fun') (i : Ins) (w : World) : OpBox p f i w.heap.size (((w.alloc (.cells (prgC p) 34)).alloc (.cells (funC f) 43)).alloc (.cells (insC i) 24)) := by
  refine ⟨((BoxC.new w _ _).gr (gr_alloc (grownBy_refl _ _) _)).gr (gr_alloc (grownBy_refl _ _) _), ?_, ?_⟩
  · have h := (BoxC.new (w.alloc (.cells (prgC p) 34)) (funC f) 43).gr (gr_alloc (grownBy_refl _ _) (.cells (insC i) 24))
    rw [show (w.alloc (.cells (prgC p) 34)).heap.size = w.heap.size + 1 by simp] at h
    exact h
  · have h := BoxC.new ((w.alloc (.cells (prgC p) 34)).alloc (.cells (funC f) 43)) (insC i) 24
    rw [show ((w.alloc (.cells (prgC p) 34)).alloc (.cells (funC f) 43)).heap.size = w.heap.size + 2 by simp] at h
    exact h
def OpRel (p : Prg) (f : Fun') (i : Ins) (s : ByteArray) (w : World) (wr : World) : Prop :=
  ∃ pos, pos ≤ s.size ∧ wr.heap[w.heap.size + 3]? = some (.stringIter s pos) ∧ opsS p f i (s.data.toList.take pos) = true ∧ w.grownBy wr none ∧ OpBox p f i w.heap.size wr
theorem opsS_take (p : Prg) (f : Fun') (i : Ins) (s : ByteArray) (pos : Nat) (h : pos < s.size) : opsS p f i (s.data.toList.take (pos + 1)) = (opsS p f i (s.data.toList.take pos) && letB p f i ((s[pos]'h).toNat : Int)) := by
  have hl : pos < s.data.toList.length := by simpa using h
  rw [List.take_succ_eq_append_getElem hl]
  unfold opsS
  rw [List.all_append]
  simp
  rfl
theorem opsS_no (p : Prg) (f : Fun') (i : Ins) (s : ByteArray) (pos : Nat) (h : pos < s.size) (hn : letB p f i ((s[pos]'h).toNat : Int) = false) : opsS p f i s.data.toList = false := by
  have hl : pos < s.data.toList.length := by simpa using h
  exact List.all_eq_false.2 ⟨s.data.toList[pos], List.getElem_mem hl, by rw [show (s.data.toList[pos].toNat : Int) = ((s[pos]'h).toNat : Int) from rfl, hn]; decide⟩
set_option maxRecDepth 100000 in
set_option maxHeartbeats 4000000 in
theorem operands_any (p : Prg) (f : Fun') (i : Ins) (bc : Nat) (w : World) (hv : VarsR w) (hp : PrgOk w p) (hi : InsOk w i) (hc : BoxC #[.int .i64 f.regs] 3 bc w) :
    Calls Tryd.prog 31 #[prgV p, funV f, insV i, clos bc] w fun e w' => e = .returned (.bool (opsB p f i)) ∧ w.grownBy w' none := by
  have HV := Lib.hid hv
  have HP := Lib.hid hp
  have HI := Lib.hid hi
  have HC := Lib.hid hc
  have HAS := Lib.hid (ascii_row i.op)
  have hg0 : w.grownBy (((w.alloc (.cells (prgC p) 34)).alloc (.cells (funC f) 43)).alloc (.cells (insC i) 24)) none := by repeat (first | with_reducible exact grownBy_refl _ _ | with_reducible assumption | with_reducible refine World.grownBy.gr_drew ?_ | with_reducible refine World.grownBy.gr_set ?_ (by simp) _ | with_reducible refine gr_alloc ?_ _)
  have HG0 := Lib.hid hg0
  have HB0 := Lib.hid (OpBox.new p f i w)
  have HRow := Lib.hid (row_any i.op _ (hv.grown hg0))
  rw [show opsB p f i = opsS p f i (rowB i.op).data.toList from rfl]
  generalize hs : rowB i.op = s at *
  clear hs hv hp hi hc hg0
  unfold prgV funV insV clos
  unfold prgC funC insC at HRow HG0
  unfold prgC funC insC
  go_enter Tryd.func31, Tryd.ntmps31
  go_wp2_with fail
  refine (HRow.out).mono ?_
  rintro e w1 ⟨rfl, rfl⟩
  clear HRow
  go_wp2_with fail
  go_loopw [10] (fun _ wr => OpRel p f i s w wr) (fun _ wr => s.size - wr.iterPos (w.heap.size + 3))
  case atStart =>
    refine ⟨0, Nat.zero_le _, ?_, rfl, gr_alloc HG0.out _, HB0.out.gr (gr_alloc (grownBy_refl _ _) _)⟩
    have h := heap_alloc_new (((w.alloc (.cells (prgC p) 34)).alloc (.cells (funC f) 43)).alloc (.cells (insC i) 24)) (.stringIter s 0)
    rw [show (((w.alloc (.cells (prgC p) 34)).alloc (.cells (funC f) 43)).alloc (.cells (insC i) 24)).heap.size = w.heap.size + 3 by simp] at h
    exact h
  case round =>
    obtain ⟨pos, hpos, hit, hall, hgr, hbox⟩ := hrel
    have HIT := Lib.hid hit
    have HG := Lib.hid hgr
    have HB := Lib.hid hbox
    have HAL := Lib.hid hall
    clear hit hgr hbox hall
    by_cases hlt : pos < s.size
    · have hch := HAS.out pos hlt
      obtain ⟨W2, hW2⟩ : ∃ W2, W2 = wr.putObj (w.heap.size + 3) (.stringIter s (pos + 1)) := ⟨_, rfl⟩
      have hnx : ∀ ty, (Instr.next (.pointer (some ⟨w.heap.size + 3, 0, none⟩)) true ty).run Tryd.prog wr = .ok (.tuple #[.bool true, .int .i64 pos, .int .i32 (s[pos]'hlt).toNat]) W2 := fun ty => by rw [hW2]; exact next_at _ _ _ _ _ HIT.out hlt hch
      have hb1 := lt_of_heap HIT.out
      have HIT2 := Lib.hid (show W2.heap[w.heap.size + 3]? = some (.stringIter s (pos + 1)) by rw [hW2]; exact World.putObj_heap_same hb1)
      have HG2 := Lib.hid (show w.grownBy W2 none by rw [hW2]; exact gr_put HG.out (by omega) _)
      have HB2 := Lib.hid (show OpBox p f i w.heap.size W2 from ⟨HB.out.p.to (by rw [hW2]; exact World.putObj_heap_other (by omega)), HB.out.f.to (by rw [hW2]; exact World.putObj_heap_other (by omega)), HB.out.i.to (by rw [hW2]; exact World.putObj_heap_other (by omega))⟩)
      obtain ⟨c0, c1, c2, c3, c4, c5, c6, c7⟩ := BoxI.cells (i := i) HB2.out.i
      have HM := Lib.hid (iterPos_of HIT.out)
      have HTK := Lib.hid (show opsS p f i (s.data.toList.take (pos + 1)) = letB p f i ((s[pos]'hlt).toNat : Int) by rw [opsS_take p f i s pos hlt, HAL.out]; rfl)
      have HNO := Lib.hid (opsS_no p f i s pos hlt)
      generalize ((s[pos]'hlt).toNat : Int) = ch at *
      clear hW2 HIT HG HB hb1 hch
      go_wp2_with fail
      refine (show Calls Tryd.prog 19 #[.agg #[.int .i64 i.op, .int .i64 i.a, .int .i64 i.b, .int .i64 i.c, .int .i64 i.w, .int .i64 i.n, .string i.sign, .slice i.aa i.an i.ac], .int .i32 ch] W2 _ from read_any i ch W2 (HI.out.1.keep (CellsK.of HG2.out))).mono ?_
      rintro e w3 ⟨A, n, c, rfl, hI, hg3⟩
      have HG3 := Lib.hid (grownBy_trans HG2.out hg3)
      have HIT3 := Lib.hid (show w3.heap[w.heap.size + 3]? = some (.stringIter s (pos + 1)) from (hg3.block _ (lt_of_heap HIT2.out) (by simp)).trans HIT2.out)
      have HB3 := Lib.hid (HB2.out.gr hg3)
      have HI3 := Lib.hid hI
      clear hI hg3 HIT2 HB2 HG2 hnx c0 c1 c2 c3 c4 c5 c6 c7
      go_wp2_with fail
      refine (all1_any _ _ _ _ f.regs bc _ HI3.out (readL_len i ch HI.out.2) (HC.out.gr HG3.out)).mono ?_
      rintro e w4 ⟨rfl, hg4⟩
      have HG4 := Lib.hid (grownBy_trans HG3.out hg4)
      have HIT4 := Lib.hid (show w4.heap[w.heap.size + 3]? = some (.stringIter s (pos + 1)) from (hg4.block _ (lt_of_heap HIT3.out) (by simp)).trans HIT3.out)
      have HB4 := Lib.hid (HB3.out.gr hg4)
      clear hg4 HIT3 HB3 HG3 HI3
      rcases hr : allB f.regs (readL i ch)
      · have HLB := Lib.hid (show letB p f i ch = false by unfold letB; rw [hr]; rfl)
        clear hr
        go_wp2_with fail
        go_ret
        exact ⟨ret_bool (a := false) (HNO.out HLB.out).symm, HG4.out⟩
      · have HR := Lib.hid hr
        clear hr
        obtain ⟨c0, c1, c2, c3, c4, c5, c6, c7⟩ := BoxI.cells (i := i) HB4.out.i
        obtain ⟨b0, b1, b2⟩ := boxP HB4.out.p
        obtain ⟨f0, f1, f2, f3, f4⟩ := boxF HB4.out.f
        go_wp2_with fail
        refine (show Calls Tryd.prog 36 #[.agg #[.slice p.sa p.sites.length p.sc, .slice p.fa p.fns.length p.fc, .int .i64 p.main], .agg #[.string f.name, .int .i64 f.regs, .int .i64 f.params, .slice f.la f.locals.length f.lc, .slice f.ca f.code.length f.cc], .agg #[.int .i64 i.op, .int .i64 i.a, .int .i64 i.b, .int .i64 i.c, .int .i64 i.w, .int .i64 i.n, .string i.sign, .slice i.aa i.an i.ac], .int .i32 ch] w4 _ from operand_any p f i w4 ch (HP.out.keep (CellsK.of HG4.out)) (HI.out.1.keep (CellsK.of HG4.out))).mono ?_
        rintro e w5 ⟨rfl, hg5⟩
        have HG5 := Lib.hid (grownBy_trans HG4.out hg5)
        have HIT5 := Lib.hid (show w5.heap[w.heap.size + 3]? = some (.stringIter s (pos + 1)) from (hg5.block _ (lt_of_heap HIT4.out) (by simp)).trans HIT4.out)
        have HB5 := Lib.hid (HB4.out.gr hg5)
        clear hg5 HIT4 HB4 HG4 c0 c1 c2 c3 c4 c5 c6 c7 b0 b1 b2 f0 f1 f2 f3 f4
        rcases ho : opdB p f i ch
        · have HLB := Lib.hid (show letB p f i ch = false by unfold letB; rw [HR.out, ho]; rfl)
          clear ho
          go_wp2_with fail
          go_ret
          exact ⟨ret_bool (a := false) (HNO.out HLB.out).symm, HG5.out⟩
        · have HO := Lib.hid ho
          clear ho
          by_cases h61 : ch = 61
          · have e1 : (ch == 61) = true := by simpa using h61
            have HE := Lib.hid e1
            clear h61
            have c1 : w5.cell? ⟨w.heap.size + 2, 1, none⟩ = some (.int .i64 i.a) := HB5.out.i.cell rfl
            go_wp2_with fail
            refine (all1_any _ _ _ [i.a] f.regs bc _ (IntsAt.new w5 [i.a] _ _ _ _ rfl rfl) (by simp [maxLen]) (HC.out.gr (gr_alloc HG5.out _))).mono ?_
            rintro e w6 ⟨rfl, hg6⟩
            have HG6 := Lib.hid (grownBy_trans (gr_alloc HG5.out _) hg6)
            have hg56 := grownBy_trans (gr_alloc (grownBy_refl w5 none) _) hg6
            have HIT6 := Lib.hid (show w6.heap[w.heap.size + 3]? = some (.stringIter s (pos + 1)) from (hg56.block _ (lt_of_heap HIT5.out) (by simp)).trans HIT5.out)
            have HB6 := Lib.hid (HB5.out.gr hg56)
            have HA1 := Lib.hid (show allB f.regs [i.a] = inB i.a f.regs by simp [allB])
            clear hg6 hg56 HIT5 HB5 HG5 c1
            rcases ha : allB f.regs [i.a]
            · have HLB := Lib.hid (show letB p f i ch = false by unfold letB; rw [HR.out, HO.out, HE.out, ← HA1.out, ha]; rfl)
              clear ha
              go_wp2_with fail
              go_ret
              exact ⟨ret_bool (a := false) (HNO.out HLB.out).symm, HG6.out⟩
            · have HLB := Lib.hid (show letB p f i ch = true by unfold letB; rw [HR.out, HO.out, HE.out, ← HA1.out, ha]; rfl)
              clear ha
              go_wp2_with fail
              go_roundw
              case rel => exact ⟨pos + 1, hlt, HIT6.out, by rw [HTK.out, HLB.out], HG6.out, HB6.out⟩
              case measure => rw [HM.out, iterPos_of HIT6.out]; omega
          · have e1 : (ch == 61) = false := by simpa using h61
            have HLB := Lib.hid (show letB p f i ch = true by unfold letB; rw [HR.out, HO.out, e1]; rfl)
            clear h61
            go_wp2_with fail
            go_roundw
            case rel => exact ⟨pos + 1, hlt, HIT5.out, by rw [HTK.out, HLB.out], HG5.out, HB5.out⟩
            case measure => rw [HM.out, iterPos_of HIT5.out]; omega
    · have hnx : ∀ ty, (Instr.next (.pointer (some ⟨w.heap.size + 3, 0, none⟩)) true ty).run Tryd.prog wr = _ := fun ty => next_end wr _ _ _ ty HIT.out hlt
      have hls : s.data.toList.length = s.size := by simp
      have HALL := Lib.hid (show opsS p f i s.data.toList = true by have h := HAL.out; rwa [List.take_of_length_le (by omega)] at h)
      clear hls
      go_wp2_with fail
      go_ret
      exact ⟨ret_bool (a := true) HALL.out.symm, HG.out⟩

end Go.Proofs.YtdknclhbnhiojaaDoor
