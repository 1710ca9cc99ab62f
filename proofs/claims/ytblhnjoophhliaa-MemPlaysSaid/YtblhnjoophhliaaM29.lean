/- The document's memory: Lay. -/
import Derived.Test.YtblhnjoophhliaaM28
import Derived.StillTailTactics
namespace Go.Proofs.Ytblhnjoophhliaa
open Go.RowKit
theorem LayR.drew1 {w W : World} {x : RB} {p : Val} {ad : Option Addr} {c : Nat} {M : List Byt} (h : LayR w W x p ad c M) : LayR w W.drew x p ad c M := ⟨h.b0, h.b1, h.row, h.gr.gr_drew⟩
def layBs (bs : List Blk) (k o : Nat) (l : List Byt) : List Blk :=
  match bs[k]? with
  | none => bs
  | some x => bs.set k { x with bytes := splice x.bytes o l }
theorem LayR.init {w w4 : World} {x : RB} {n b f : Int} {ad sa : Option Addr} {c sc : Nat} (hown : w4.ownsRow (w.heap.size + 2) 67 5 (.slice ad x.bytes.length c) x.bytes.length (flatC bytC x.bytes))
    (hgr : (((w.alloc (.cells #[.int .i64 n, .int .i64 b, .int .i64 f] 29)).alloc (.cells #[.int .i64 x.site, .slice sa x.bytes.length sc, .bool x.ended] 59)).alloc (.cells #[] 67)).grownBy w4 (some (w.heap.size + 2))) :
    w4.cell? ⟨w.heap.size + 1, 1, none⟩ = some (.slice sa x.bytes.length sc) ∧ w4.frozen? ⟨w.heap.size + 1, 1, none⟩ = false ∧ LayR w (w4.setCell ⟨w.heap.size + 1, 1, none⟩ (.slice ad x.bytes.length c)) x ⟨n, b, f⟩ ad c x.bytes := by
  have h0 : w4.heap[w.heap.size]? = some (.cells #[.int .i64 n, .int .i64 b, .int .i64 f] 29 (0, 0)) := by
    rw [hgr.block _ (by simp only [World.size_alloc]; omega) (by simp), heap_alloc_old _ _ (by simp only [World.size_alloc]; omega), heap_alloc_old _ _ (by simp only [World.size_alloc]; omega)]
    exact heap_alloc_new w _
  have h1 : w4.heap[w.heap.size + 1]? = some (.cells #[.int .i64 x.site, .slice sa x.bytes.length sc, .bool x.ended] 59 (0, 0)) := by
    rw [hgr.block _ (by simp only [World.size_alloc]; omega) (by simp), heap_alloc_old _ _ (by simp only [World.size_alloc]; omega)]
    have := heap_alloc_new (w.alloc (.cells #[.int .i64 n, .int .i64 b, .int .i64 f] 29)) (.cells #[.int .i64 x.site, .slice sa x.bytes.length sc, .bool x.ended] 59)
    simpa only [World.size_alloc] using this
  have keep : ∀ v i, i ≠ w.heap.size + 1 → (w4.setCell ⟨w.heap.size + 1, 1, none⟩ v).heap[i]? = w4.heap[i]? := fun v i hi => Below.heap_setCell _ _ _ _ hi
  have g4 : w.grownBy w4 none := ⟨hgr.os, hgr.tape, hgr.output, Nat.le_trans (by simp only [World.size_alloc]; omega) hgr.size, fun i hi _ => (hgr.block i (by simp only [World.size_alloc]; omega) (by simp; omega)).trans ((gr_alloc (gr_alloc (gr_alloc (grownBy_refl w none) _) _) _).block i hi (by simp))⟩
  refine ⟨by simp [World.cell?, h1], by simp [World.frozen?, h1], (keep _ _ (by omega)).trans h0, ?_, ⟨hown.1, ?_⟩, g4.gr_set (p := ⟨w.heap.size + 1, 1, none⟩) (by show _ ≤ w.heap.size + 1; omega) _⟩
  · simp [World.setCell, Array.getElem?_modify, h1]
  · refine hown.2.imp id ?_
    rintro ⟨g, cap, cur, e, hg, hh, q⟩
    exact ⟨g, cap, cur, e, hg, (keep _ _ (by omega)).trans hh, q⟩
theorem LayR.init0 {w : World} {x : RB} {n b f : Int} (hb : x.bytes = []) : LayR w (((w.alloc (.cells #[.int .i64 n, .int .i64 b, .int .i64 f] 29)).alloc (.cells #[.int .i64 x.site, .slice (some ⟨w.heap.size + 1 + 1, 0, none⟩) 0 0, .bool x.ended] 59)).alloc (.cells #[] 67)) x ⟨n, b, f⟩ (some ⟨w.heap.size + 2, 0, none⟩) 0 x.bytes := by
  refine ⟨?_, ?_, ?_, gr_alloc (gr_alloc (gr_alloc (grownBy_refl w none) _) _) _⟩
  · show _ = _
    rw [heap_alloc_old _ _ (by simp only [World.size_alloc]; omega), heap_alloc_old _ _ (by simp only [World.size_alloc]; omega)]
    exact heap_alloc_new w _
  · rw [heap_alloc_old _ _ (by simp only [World.size_alloc]; omega), hb]
    have := heap_alloc_new (w.alloc (.cells #[.int .i64 n, .int .i64 b, .int .i64 f] 29)) (.cells #[.int .i64 x.site, .slice (some ⟨w.heap.size + 1 + 1, 0, none⟩) 0 0, .bool x.ended] 59)
    simp only [World.size_alloc] at this
    exact this
  · rw [hb]
    have h := heap_alloc_new ((w.alloc (.cells #[.int .i64 n, .int .i64 b, .int .i64 f] 29)).alloc (.cells #[.int .i64 x.site, .slice (some ⟨w.heap.size + 1 + 1, 0, none⟩) 0 0, .bool x.ended] 59)) (.cells #[] 67)
    simp only [World.size_alloc] at h
    exact ⟨rfl, .inr ⟨w.heap.size + 2, 0, #[], rfl, Nat.le_refl _, h, Nat.le_refl _, by unfold maxLen; omega, rfl, rfl⟩⟩
set_option maxRecDepth 100000 in
set_option maxHeartbeats 4000000 in
theorem Lay_any {S : Nat → Prop} {ad ld : Option Addr} {rs : List RB} (cap lc : Nat) (p : Val) (l : List Byt) (w : World) (h : RefAt S w ad rs) {k o : Nat} {x : RB} (hx : rs[k]? = some x) (hb : p.b = (k : Int) + 1) (ho : p.n = o) (hol : o + l.length ≤ x.bytes.length) (hl : RdAt w ld l) (hy : Byts l) :
    Calls Try.prog 41 #[.slice ad rs.length cap, valV p, .slice ld l.length lc] w fun e w' => ∃ v, e = .returned v ∧ RefP S w w' v (layBs (rsB rs) k o l) ∧ w.grownBy w' none := by
  have hk := (List.getElem?_eq_some_iff.1 hx).1
  have hsm := h.small
  obtain ⟨g, rfl, hgw, c0, c1, c2⟩ := h.cells hx
  have hxe := h.each x (List.mem_of_getElem? hx)
  have hxl := hxe.2.2.1
  have HR := Lib.hid h
  have HX := Lib.hid hx
  have HXE := Lib.hid hxe
  have HL := Lib.hid hl
  have HY := Lib.hid hy
  obtain ⟨pn, pb, pf⟩ := p
  unfold valV valC
  dsimp only at hb ho ⊢
  subst hb ho
  clear h hx hxe hl hy
  obtain ⟨i0, hi, hz0, hz1, hz2⟩ := info_parts infoByte
  rcases hxa : x.ad with _ | xa
  · have hb0 : x.bytes = [] := by
      rcases HXE.out.1 with e | ⟨g, e, _⟩
      · exact e
      · rw [hxa] at e; cases e
    have hlen : x.bytes.length = 0 := by rw [hb0]; rfl
    have hcap : x.cap = 0 := HXE.out.2.2.2.2.1 hxa
    have HB0 := Lib.hid hb0
    rw [hxa, hlen, hcap] at c1
    clear hxa hcap hb0
    go_enter Try.func41, Try.ntmps41
    go_wp2_with (at_builtin; go_must (refine wpList_append_own_none rfl (.tmp 15) (.tmp 17) 55 rfl (w.heap.size + 2) 67 i0 5 Try.underlying55 hi _ 0 [] rfl ⟨rfl, .inr ⟨w.heap.size + 2, 0, _, rfl, Nat.le_refl _, by simpa using heap_alloc_new ((w.alloc _).alloc _) (.cells #[] 67), Nat.le_refl _, by unfold maxLen; omega, rfl, rfl⟩⟩ rfl ?_))
    have hLR := LayR.init0 (w := w) (x := x) (n := o) (b := (k : Int) + 1) (f := pf) HB0.out
    have HLR := Lib.hid hLR
    have HC0 : Hid (((some ⟨w.heap.size + 2, 0, none⟩ : Option Addr) = none → (0 : Nat) = 0) ∧ x.bytes.length ≤ 0) := Lib.hid ⟨fun _ => rfl, by rw [hlen]; exact Nat.le_refl _⟩
    clear hLR
    go_loopw [8] (fun i W => ∃ j : Nat, j ≤ l.length ∧ i = .int .i64 j ∧ LayR w W x ⟨o, (k : Int) + 1, pf⟩ (some ⟨w.heap.size + 2, 0, none⟩) 0 (splice x.bytes o (l.take j))) (fun i _ => l.length - (intOf i).toNat)
    case atStart => exact ⟨0, Nat.zero_le _, rfl, by rw [List.take_zero, splice_nil]; exact HLR.out⟩
    case round =>
      obtain ⟨j, hj, rfl, hlr⟩ := hrel
      have HJ := Lib.hid hlr
      obtain ⟨x0, x1, x2⟩ := hlr.b0.cells
      obtain ⟨q0, q1, q2⟩ := hlr.box
      dsimp only at x0 x1 x2
      clear hlr
      by_cases hlt : j < l.length
      · exact absurd hlt (by omega)
      · have e : j = l.length := by omega
        subst e
        clear hlt
        have hM : (splice x.bytes o l).length = x.bytes.length := splice_len _ _ _ hol
        have hJ := HJ.out
        rw [List.take_length] at hJ
        have HJ := Lib.hid hJ
        clear hJ
        have hrow := HJ.out.row
        obtain ⟨ad2, c2', e2, _, hgs⟩ := own_form hrow
        simp only [Value.slice.injEq] at e2
        obtain ⟨rfl, _, rfl⟩ := e2
        have hW := with_any (S := New S w wr) cap k { x with bytes := splice x.bytes o l, ad := (some ⟨w.heap.size + 2, 0, none⟩), cap := 0 } wr (HR.out.up HJ.out.gr) hk (own_rd hrow) (fun g hg => .inr ⟨by have := (hgs g hg).1; omega, (hgs g hg).2, own_ty hrow hg (.inr rfl)⟩) (by show (splice x.bytes o l).length ≤ 4096; rw [hM]; exact hxl) (splice_byts HXE.out.2.2.2.1 HY.out o) ⟨HC0.out.1, (show (splice x.bytes o l).length ≤ 0 from by rw [hM]; exact HC0.out.2)⟩
        unfold rbV rbC at hW
        dsimp only at hW
        rw [hM] at hW
        have HW := Lib.hid hW
        clear hrow hgs hW hM hlen hol hxl c0 c1 c2
        go_wp2_with fail
        refine HW.out.mono ?_
        rintro e w2 ⟨ad'', c'', rfl, h2, g2⟩
        have H2 := Lib.hid h2
        have HG2 := Lib.hid (grownBy_trans HJ.out.gr g2)
        have HGL := Lib.hid g2.size
        have HG22 := Lib.hid g2
        clear h2 g2
        go_wp2_with fail
        go_ret
        refine ⟨.slice ad'' rs.length c'', rfl, ⟨_, ad'', c'', by rw [List.length_set], ?_, H2.out.mono (fun i hi => ?_) (fun i hi => ?_)⟩, HG2.out⟩
        · unfold layBs
          rw [rsB_at, HX.out]
          simp only [Option.map_some, rsB, List.map_set]
          rfl
        · have := HJ.out.gr.size
          have := HGL.out
          rcases hi with (hi | hi) | hi
          · exact .inl hi
          · exact .inr ⟨hi.1, by omega, hi.2.2.gr HG22.out⟩
          · exact .inr ⟨by omega, hi.2⟩
        · rcases hi with hi | hi
          · exact Nat.lt_of_lt_of_le (HR.out.lt i hi) HG2.out.size
          · exact hi.2.1
  · have HXA := Lib.hid hxa
    rw [hxa] at c1
    go_enter Try.func41, Try.ntmps41
    go_wp2_with (at_builtin; go_must (refine wpList_append_own _ rfl (.tmp 15) (.tmp 17) 55 rfl (w.heap.size + 2) 67 i0 _ 5 40 Try.underlying55 hi hz0 hz1 hz2 rfl (by decide) _ 0 [] rfl ⟨rfl, .inr ⟨w.heap.size + 2, 0, _, rfl, Nat.le_refl _, by simpa using heap_alloc_new ((w.alloc _).alloc _) (.cells #[] 67), Nat.le_refl _, by unfold maxLen; omega, rfl, rfl⟩⟩ xa x.bytes.length x.cap (flatC bytC x.bytes) rfl (flat_len bytC_size _) ?_ (flat_one bytC_one _) (by unfold maxLen; omega) (by omega) (by simp only [World.size_alloc]; omega) ?_))
    · exact fun j u hu => (((HXA.out ▸ HXE.out.1 : RdAt w (some xa) x.bytes).gr (gr_alloc (gr_alloc (gr_alloc (grownBy_refl w none) _) _) _))).src j u hu
    intro v' w4 hown hgr _; replace hown : w4.ownsRow (w.heap.size + 2) 67 5 v' x.bytes.length (flatC bytC x.bytes) := (by simpa using hown); obtain ⟨ad', c', rfl, hc0, hgs⟩ := own_form hown; obtain ⟨d1, z1, hLR⟩ := LayR.init (x := x) (n := o) (b := (k : Int) + 1) (f := pf) (sa := some xa) (sc := x.cap) hown hgr; have HLR := Lib.hid hLR; have HGS := Lib.hid hgs; have HC0 := Lib.hid hc0; clear hown hgr hLR hgs hc0
    go_wp2_with fail
    go_loopw [8] (fun i W => ∃ j : Nat, j ≤ l.length ∧ i = .int .i64 j ∧ LayR w W x ⟨o, (k : Int) + 1, pf⟩ ad' c' (splice x.bytes o (l.take j))) (fun i _ => l.length - (intOf i).toNat)
    case atStart => exact ⟨0, Nat.zero_le _, rfl, by rw [List.take_zero, splice_nil]; exact HLR.out⟩
    case round =>
      obtain ⟨j, hj, rfl, hlr⟩ := hrel
      have HJ := Lib.hid hlr
      obtain ⟨x0, x1, x2⟩ := hlr.b0.cells
      obtain ⟨q0, q1, q2⟩ := hlr.box
      dsimp only at x0 x1 x2
      clear hlr
      by_cases hlt : j < l.length
      · have hM : (splice x.bytes o (l.take j)).length = x.bytes.length := splice_len _ _ _ (by rw [List.length_take]; omega)
        have HM := Lib.hid hM
        have HROW := Lib.hid HJ.out.row
        obtain ⟨g', cc, e', hg1, hg2⟩ := own_some HJ.out.row (by rw [hM]; omega)
        simp only [Value.slice.injEq] at e'
        obtain ⟨rfl, _, rfl⟩ := e'
        obtain ⟨lg, y, rfl, hy, l0, l1, l2, l3, l4⟩ := (HL.out.gr HJ.out.gr).cells hlt
        have HYJ := Lib.hid hy
        have y0 := HJ.out.row.frozenAt ((o + j) * 5)
        have y1 := HJ.out.row.frozenAt ((o + j) * 5 + 1)
        have y2 := HJ.out.row.frozenAt ((o + j) * 5 + 2)
        have y3 := HJ.out.row.frozenAt ((o + j) * 5 + 3)
        have y4 := HJ.out.row.frozenAt ((o + j) * 5 + 4)
        have hoj : o + j < x.bytes.length := by omega
        have hoj2 : o + j < (splice x.bytes o (l.take j)).length := by rw [hM]; omega
        have yy := List.getElem?_eq_getElem hoj2
        have m0 : wr.cell? ⟨g', (o + j) * 5, none⟩ = some (.int .i64 (splice x.bytes o (l.take j))[o + j].k) := (HJ.out.row.cellAt _ (by rw [hM]; omega)).trans (by rw [show (o + j) * 5 = (o + j) * 5 + 0 by rfl, flat_at bytC_size _ _ _ (by omega), yy]; rfl)
        have m1 : wr.cell? ⟨g', (o + j) * 5 + 1, none⟩ = some (.int .u8 (splice x.bytes o (l.take j))[o + j].v) := (HJ.out.row.cellAt _ (by rw [hM]; omega)).trans (by rw [flat_at bytC_size _ _ _ (by omega), yy]; rfl)
        have m2 : wr.cell? ⟨g', (o + j) * 5 + 2, none⟩ = some (.int .i64 (splice x.bytes o (l.take j))[o + j].p.n) := (HJ.out.row.cellAt _ (by rw [hM]; omega)).trans (by rw [flat_at bytC_size _ _ _ (by omega), yy]; rfl)
        have m3 : wr.cell? ⟨g', (o + j) * 5 + 3, none⟩ = some (.int .i64 (splice x.bytes o (l.take j))[o + j].p.b) := (HJ.out.row.cellAt _ (by rw [hM]; omega)).trans (by rw [flat_at bytC_size _ _ _ (by omega), yy]; rfl)
        have m4 : wr.cell? ⟨g', (o + j) * 5 + 4, none⟩ = some (.int .i64 (splice x.bytes o (l.take j))[o + j].p.f) := (HJ.out.row.cellAt _ (by rw [hM]; omega)).trans (by rw [flat_at bytC_size _ _ _ (by omega), yy]; rfl)
        generalize (splice x.bytes o (l.take j))[o + j] = z at m0 m1 m2 m3 m4
        clear hy hM yy
        go_wp2_with fail
        go_still_tail 10, (by kernel_rfl)
        change wpList _ _ _ _ _ wr.drew
        go_wp2_with fail
        go_roundw
        case rel =>
          refine ⟨j + 1, by omega, by go_num, ?_⟩
          have hp := (HJ.out.put hg1 hoj2 y).drew1
          have e := splice_snoc x.bytes o (l.take j) y (by rw [List.length_take]; omega)
          rw [List.length_take, Nat.min_eq_left hj, show l.take j ++ [y] = l.take (j + 1) by rw [List.take_add_one, HYJ.out]; rfl] at e
          rw [e] at hp
          exact hp
        case measure => simp [intOf]; omega
      · have e : j = l.length := by omega
        subst e
        clear hlt
        have hM : (splice x.bytes o l).length = x.bytes.length := splice_len _ _ _ hol
        have hJ := HJ.out
        rw [List.take_length] at hJ
        have HJ := Lib.hid hJ
        clear hJ
        have hrow := HJ.out.row
        obtain ⟨ad2, c2', e2, _, hgs⟩ := own_form hrow
        simp only [Value.slice.injEq] at e2
        obtain ⟨rfl, _, rfl⟩ := e2
        have hW := with_any (S := New S w wr) cap k { x with bytes := splice x.bytes o l, ad := ad', cap := c' } wr (HR.out.up HJ.out.gr) hk (own_rd hrow) (fun g hg => .inr ⟨by have := (hgs g hg).1; omega, (hgs g hg).2, own_ty hrow hg (.inr rfl)⟩) (by show (splice x.bytes o l).length ≤ 4096; rw [hM]; exact hxl) (splice_byts HXE.out.2.2.2.1 HY.out o) ⟨HC0.out.1, (show (splice x.bytes o l).length ≤ c' from by rw [hM]; exact HC0.out.2)⟩
        unfold rbV rbC at hW
        dsimp only at hW
        rw [hM] at hW
        have HW := Lib.hid hW
        clear hrow hgs hW
        go_wp2_with fail
        refine HW.out.mono ?_
        rintro e w2 ⟨ad'', c'', rfl, h2, g2⟩
        have H2 := Lib.hid h2
        have HG2 := Lib.hid (grownBy_trans HJ.out.gr g2)
        have HGL := Lib.hid g2.size
        have HG22 := Lib.hid g2
        clear h2 g2
        go_wp2_with fail
        go_ret
        refine ⟨.slice ad'' rs.length c'', rfl, ⟨_, ad'', c'', by rw [List.length_set], ?_, H2.out.mono (fun i hi => ?_) (fun i hi => ?_)⟩, HG2.out⟩
        · unfold layBs
          rw [rsB_at, HX.out]
          simp only [Option.map_some, rsB, List.map_set]
          rfl
        · have := HJ.out.gr.size
          have := HGL.out
          rcases hi with (hi | hi) | hi
          · exact .inl hi
          · exact .inr ⟨hi.1, by omega, hi.2.2.gr HG22.out⟩
          · exact .inr ⟨by omega, hi.2⟩
        · rcases hi with hi | hi
          · exact Nat.lt_of_lt_of_le (HR.out.lt i hi) HG2.out.size
          · exact hi.2.1

end Go.Proofs.Ytblhnjoophhliaa
