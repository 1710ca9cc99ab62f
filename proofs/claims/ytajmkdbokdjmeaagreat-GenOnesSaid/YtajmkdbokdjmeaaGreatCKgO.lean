/- GenOnes, walked. -/
import Derived.Test.YtajmkdbokdjmeaaGreatCKo2
namespace Go.Proofs.YtajmkdbokdjmeaaGreat
open Go.RowKit
set_option maxRecDepth 100000 in
set_option maxHeartbeats 16000000 in
theorem ones_walk (p : Prg) (wh : Int) (h0 : 0 ≤ wh) (h255 : wh ≤ 255) (w : World) (hp : PrgOk w p) : Calls Tryz.prog 4 #[prgV p, .int .u8 wh] w fun e w' => e = .returned (.bool true) ∧ w.grownBy w' none := by
  have HP := Lib.hid hp
  have HG0 := Lib.hid (gr_alloc (grownBy_refl w none) (.cells (prgC p) 25))
  have HB0 := Lib.hid (BoxC.new w (prgC p) 25)
  clear hp
  unfold prgV
  unfold prgC at HG0 HB0
  unfold prgC
  go_enter Tryz.func4, Tryz.ntmps4
  go_wp2_with fail
  refine (shown17 _).mono ?_
  rintro e w1 ⟨rfl, hg1⟩
  have HG1 := Lib.hid (grownBy_trans HG0.out hg1)
  have HB1 := Lib.hid (show BoxC (prgC p) 25 w.heap.size w1 from BoxC.gr HB0.out hg1)
  obtain ⟨b0, b1, b2⟩ := boxP HB1.out
  clear hg1 HB0 HG0
  go_wp2_with fail
  refine (show Calls Tryz.prog 9 #[.agg #[.slice p.sa p.sites.length p.sc, .slice p.fa p.fns.length p.fc, .int .i64 p.main]] w1 _ from may_any p w1 (HP.out.keep (CellsK.of HG1.out))).mono ?_
  rintro e w2 ⟨mb, rfl, hmb, hg2⟩
  have HG2 := Lib.hid (grownBy_trans HG1.out hg2)
  have HB2 := Lib.hid (HB1.out.gr hg2)
  have HMB := Lib.hid hmb
  clear hg2 HG1 HB1 b0 b1 b2 hmb
  obtain ⟨b0, b1, b2⟩ := boxP HB2.out
  rcases mb with _ | _
  · go_wp2_with fail
    go_ret
    exact ⟨rfl, HG2.out⟩
  · have HD := Lib.hid (docOK_of (HMB.out rfl))
    have hlen := HD.out.ok.small.1
    have HLB := Lib.hid (genK_len HD.out.ok p.fns.length (Nat.le_refl _))
    have hp0 : 0 < p.fns.length := by have := inB_iff (HMB.out rfl).main; omega
    have hz0' : ¬ p.fns.length = 0 := by omega
    have e1 : ((p.fns.length : Int) == 0) = false := by simpa using hz0'
    clear hz0'
    obtain ⟨k, hk⟩ : ∃ k : Nat, wh % (p.fns.length : Int) = (k : Int) := ⟨(wh % (p.fns.length : Int)).toNat, by have := Int.emod_nonneg wh (show (p.fns.length : Int) ≠ 0 by omega); omega⟩
    have hkl : k < p.fns.length := by have := Int.emod_lt_of_pos wh (show (0 : Int) < p.fns.length by omega); omega
    obtain ⟨ad, ha, _⟩ := fun_cells HP.out.2.2.2.1 hp0
    rw [ha]
    rw [ha] at b1
    have HA := Lib.hid ha
    have HK := Lib.hid hk
    have hbl := lt_of_heap HB2.out
    have HFC := Lib.hid (fun (W : World) (g : w2.grownBy W none) => (show StrAt funC 5 W (some ad) p.fns by rw [← ha]; exact (HP.out.2.2.2.1).keep (CellsK.of (grownBy_trans HG2.out g))))
    clear hk
    obtain ⟨i0, hi, hz0, hz1, hz2⟩ := info_parts infoFn
    go_wp2_with (at_builtin; go_must (refine wpList_append_own _ rfl (.tmp 30) (.tmp 32) 23 rfl (w2.heap.size + 1) 39 i0 _ 5 80 Tryz.underlying23 hi hz0 hz1 hz2 rfl (by decide) _ 0 [] rfl ⟨rfl, .inr ⟨w2.heap.size + 1, 0, _, rfl, Nat.le_refl _, alloc_at (by simp), Nat.le_refl _, by unfold maxLen; omega, rfl, rfl⟩⟩ ad p.fns.length p.fc (flatC funC p.fns) rfl ?_ ?_ ?_ ?_ ?_ ?_ ?_))
    · exact flat_len funC_size _
    · exact fun j u hu => StrAt.flat funC_size (HFC.out _ (by repeat (first | with_reducible exact grownBy_refl _ _ | with_reducible assumption | with_reducible refine World.grownBy.gr_drew ?_ | with_reducible refine World.grownBy.gr_set ?_ (by simp) _ | with_reducible refine gr_alloc ?_ _))) j u hu
    · exact flat_one funC_one _
    · unfold maxLen; omega
    · omega
    · simp
    intro v' w4 hown hgrow _
    replace hown : w4.ownsRow (w2.heap.size + 1) 39 5 v' p.fns.length (flatC funC p.fns) := by simpa using hown
    have HGA := Lib.hid (gr_alloc (gr_alloc (grownBy_refl w2 none) (.cells #[.slice p.sa p.sites.length p.sc, .slice (some ad) p.fns.length p.fc, .int .i64 p.main] 25)) (.cells #[] 39))
    have HG4 := Lib.hid (gr_own (grownBy_trans HG2.out HGA.out) hgrow (fun q hq => by simp [Value.ownBlock] at hq; omega))
    have HB4 := Lib.hid (show BoxC (prgC p) 25 w.heap.size w4 from (hgrow.block _ (by simp; omega) (by simp [Value.ownBlock]; omega)).trans (HB2.out.gr HGA.out))
    have HQ4 := Lib.hid (show BoxC #[.slice p.sa p.sites.length p.sc, .slice (some ad) p.fns.length p.fc, .int .i64 p.main] 25 w2.heap.size w4 from (hgrow.block _ (by simp; omega) (by simp [Value.ownBlock])).trans (alloc_keep (alloc_at rfl)))
    obtain ⟨g, c, rfl, hg1, hg2⟩ := own_some hown hp0
    have HO4 := Lib.hid hown
    have hbg : w.heap.size < g := by omega
    have hqg : w2.heap.size < g := by omega
    have hq4 : w4.cell? ⟨w2.heap.size, 1, none⟩ = some (.slice (some ad) p.fns.length p.fc) := HQ4.out.cell rfl
    have zq4 : w4.frozen? ⟨w2.heap.size, 1, none⟩ = false := HQ4.out.froz 1
    have HBL := Lib.hid hbl
    clear hown hgrow hi hz0 hz1 hz2 b0 b1 b2
    rw [HK.out]
    have HST := Lib.hid (show OnSt p p.fns k 0 g c w2.heap.size (w2.heap.size + 1) w (w4.setCell ⟨w2.heap.size, 1, none⟩ (.slice (some ⟨g, 0, none⟩) p.fns.length c)) from
      ⟨Ones.first _ _ _ _, RowKit.ownsRow_setCell_below HO4.out (a := ⟨w2.heap.size, 1, none⟩) (by show w2.heap.size < w2.heap.size + 1; omega) _, HQ4.out.set 1 _, HB4.out.other (a := ⟨w2.heap.size, 1, none⟩) (by show w2.heap.size ≠ w.heap.size; omega) _, HG4.out.gr_set (p := ⟨w2.heap.size, 1, none⟩) (by show w.heap.size ≤ w2.heap.size; omega) _, hqg, hbg⟩)
    go_wp2_with fail
    generalize w4.setCell _ _ = w5 at *
    generalize w2.heap.size = qb at *
    go_loopw [8] (fun i wr => ∃ (q : Nat) (F : List Fun'), q ≤ p.fns.length ∧ i = .int .i64 q ∧ Hid (OnSt p F k q g c qb (qb + 1) w wr)) (fun i _ => p.fns.length - (intOf i).toNat)
    case atStart => exact ⟨0, p.fns, Nat.zero_le _, rfl, HST⟩
    case round =>
      obtain ⟨q, F, hq, rfl, HS⟩ := hrel
      have HQ := Lib.hid (show IntKind.i64.wrap ((q : Int) + 1) = (q : Int) + 1 by rw [IntKind.wrap_i64]; omega)
      have q1 : wr.cell? ⟨qb, 1, none⟩ = some (.slice (some ⟨g, 0, none⟩) p.fns.length c) := HS.out.qbox.cell rfl
      have hgl := HS.out.glt
      have hqb := HS.out.lq
      by_cases hlt : q < p.fns.length
      · have hx := List.getElem?_eq_getElem hlt
        generalize p.fns[q]'hlt = f at hx
        by_cases hqk : q = k
        · subst hqk
          clear hx
          go_wp2_with fail
          exact ⟨⟨q + 1, F, hlt, rfl, Lib.hid HS.out.skip⟩, by simp [intOf]; omega⟩
        · have n1 : ((q : Int) != (k : Int)) = true := by simp; omega
          obtain ⟨vv, hvv⟩ := HS.out.cell hlt
          have zf : wr.frozen? ⟨g, q * 5 + 4, none⟩ = false := row_froz HS.out.row _
          have HNX := Lib.hid (HS.out.step2 hx hqk)
          clear hx
          go_wp2_with fail
          exact ⟨⟨q + 1, _, hlt, rfl, HNX⟩, by simp [intOf]; omega⟩
      · obtain rfl : q = p.fns.length := by omega
        obtain ⟨b0, b1, b2⟩ := boxP HS.out.pbox
        rw [ha] at b1
        have hpl := lt_of_heap HS.out.pbox
        have HGE := Lib.hid (show Calls Tryz.prog 14 #[.agg #[.slice p.sa p.sites.length p.sc, .slice (some ad) p.fns.length p.fc, .int .i64 p.main]] wr (GenRet wr (genK p.fns p.fns.length)) from by
          have h := Gen_any p wr (HP.out.keep (CellsK.of HS.out.gr)) HD.out.ok
          unfold prgV prgC at h
          rw [ha] at h
          exact h)
        go_wp2_with fail
        refine HGE.out.mono ?_
        rintro e w6 ⟨A, d, L, rfl, hc0, hL, hKA, hb, hg6, _⟩
        have HS6 := Lib.hid (HS.out.keep hg6)
        have HL6 := Lib.hid (show RdSt (.slice none 0 0) A L w6 from ⟨hL, hKA, fun _ _ _ h => by cases h⟩)
        have hll : L.length ≤ 40000000000 := by have := HLB.out; rw [← hb, List.length_map] at this; omega
        have HBR := Lib.hid hb
        clear hg6 hL hKA hc0 hb HGE b0 b1 b2 hpl q1 hgl hqb
        go_wp2_with fail
        go_loopw [10, 11] (fun v i wr => ∃ r : Nat, r ≤ L.length ∧ i = .int .i64 r ∧ Hid (OwR w6.heap.size wr v ((L.take r).filter (ofF k))) ∧ Hid (RdSt v A L wr) ∧ Hid (w6.grownBy wr none)) (fun v i _ => L.length - (intOf i).toNat)
        case atStart => exact ⟨0, Nat.zero_le _, rfl, Lib.hid (OwR.nil _ _), HL6, Lib.hid (grownBy_refl _ _)⟩
        case round =>
          obtain ⟨r, hr, rfl, HO, HR, HG⟩ := hrel
          have HQ := Lib.hid (show IntKind.i64.wrap ((r : Int) + 1) = (r : Int) + 1 by rw [IntKind.wrap_i64]; omega)
          obtain ⟨V, dv, hv, _, _⟩ := HO.out.at_
          have hfl : ((L.take r).filter (ofF k)).length ≤ r := Nat.le_trans (List.length_filter_le _ _) (by rw [List.length_take]; omega)
          have HFL := Lib.hid hfl
          obtain ⟨m, hm⟩ : ∃ m, m = ((L.take r).filter (ofF k)).length := ⟨_, rfl⟩
          rw [← hm] at hv
          have HM := Lib.hid hm
          subst hv
          clear hm hfl
          by_cases hlr : r < L.length
          · obtain ⟨da, rfl, e0, e1', e2, e3, e4, e5, e6, e7, e8⟩ := kon_cells HR.out.at_ hlr
            have HKX := Lib.hid (HR.out.args _ (List.getElem_mem hlr))
            have HFT := Lib.hid (filter_take (P := ofF k) (List.getElem?_eq_getElem hlr))
            generalize L[r]'hlr = x at *
            by_cases hxk : x.fn = (k : Int)
            · have n1 : (x.fn == (k : Int)) = true := by simpa using hxk
              have HPX := Lib.hid (show ofF k x = true from n1)
              clear hxk
              have HGA' := Lib.hid (gr_alloc (grownBy_refl wr none) (.cells (konC x) 43))
              have hgz := HG.out.size
              go_wp2_with (at_builtin; go_must (refine app_kon rfl (.tmp 67) (.tmp 72) rfl w6.heap.size (.slice V m dv) ((L.take r).filter (ofF k)) rfl (HO.out.gr HGA'.out) wr.heap.size x (0, 0) rfl (heap_alloc_new wr (.cells (konC x) 43)) (by have := HFL.out; omega) (by simp; omega) ?_; intro v5 w7 ho5 hg5 hb5; obtain ⟨A5, c5, hv5, _⟩ := ho5.out.at_; rw [List.length_append, ← HM.out] at hv5; subst hv5))
              exact ⟨⟨r + 1, hlr, rfl, Lib.hid (by rw [HFT.out, HPX.out]; exact ho5.out), Lib.hid (HR.out.app HO.out HGA'.out hg5.out hb5.out), Lib.hid (gr_own (gr_alloc HG.out _) hg5.out fun j hj => (HO.out.lt j hj).1)⟩, by simp [intOf]; omega⟩
            · have n1 : (x.fn == (k : Int)) = false := by simpa using hxk
              have HPX := Lib.hid (show ofF k x = false from n1)
              clear hxk
              go_wp2_with fail
              exact ⟨⟨r + 1, hlr, rfl, Lib.hid (by rw [HFT.out, HPX.out]; simpa using HO.out), HR, HG⟩, by simp [intOf]; omega⟩
          · obtain rfl : r = L.length := by omega
            have ho := HO.out
            rw [List.take_length] at ho
            have hmm : m = (L.filter (ofF k)).length := by rw [HM.out, List.take_length]
            subst hmm
            have HOF := Lib.hid ho
            have HSW := Lib.hid (HS6.out.keep HG.out)
            have qc0 : wr.cell? ⟨qb, 0, none⟩ = some (.slice p.sa p.sites.length p.sc) := HSW.out.qbox.cell rfl
            have qc1 : wr.cell? ⟨qb, 1, none⟩ = some (.slice (some ⟨g, 0, none⟩) p.fns.length c) := HSW.out.qbox.cell rfl
            have qc2 : wr.cell? ⟨qb, 2, none⟩ = some (.int .i64 p.main) := HSW.out.qbox.cell rfl
            have HGQ := Lib.hid (HSW.out.gen HP.out HD.out.ok (List.getElem?_eq_getElem hkl))
            have HKL := Lib.hid (fun (c : Kon) (hc : c ∈ L) => args_small HD.out.ok HBR.out c hc)
            clear ho
            go_wp2_with fail
            refine HGQ.out.mono ?_
            rintro e w8 ⟨A8, c8, L8, rfl, _, hL8, hK8, hb8, hg8, _⟩
            have HB8 := Lib.hid (show L8.map bare = (L.filter (ofF k)).map bare by rw [hb8, filter_bare HBR.out])
            have HSM := Lib.hid (SameK_any A8 V c8 dv L8 (L.filter (ofF k)) w8 hL8 ((StrAt.of_ownV HOF.out).keep (CellsK.of hg8)) hK8 (KArgs.fr (fun c hc => HR.out.args c ((List.mem_filter.1 hc).1)) (FrK.gr hg8)) HB8.out (by
                have h1 := congrArg List.length HB8.out
                rw [List.length_map, List.length_map] at h1
                have := List.length_filter_le (ofF k) L
                omega) (fun c hc => by
                have h1 : bare c ∈ (L.filter (ofF k)).map bare := by rw [← HB8.out]; exact List.mem_map_of_mem hc
                obtain ⟨d, hd, e⟩ := List.mem_map.1 h1
                have h2 := HKL.out d ((List.mem_filter.1 hd).1)
                have h3 : d.args = c.args := by have := congrArg Kon.args e; exact this
                rw [← h3]
                exact h2))
            have HG8 := Lib.hid (grownBy_trans HSW.out.gr hg8)
            clear hL8 hK8 hb8 hg8 qc0 qc1 qc2
            go_wp2_with fail
            refine HSM.out.mono ?_
            rintro e w9 ⟨rfl, hg9⟩
            have HG9 := Lib.hid (grownBy_trans HG8.out hg9)
            clear hg9
            go_wp2_with fail
            go_ret
            exact ⟨rfl, HG9.out⟩

end Go.Proofs.YtajmkdbokdjmeaaGreat
