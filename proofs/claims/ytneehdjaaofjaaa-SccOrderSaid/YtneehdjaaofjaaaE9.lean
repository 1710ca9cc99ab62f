/- scc: groups. -/
import Derived.Test.YtneehdjaaofjaaaEe
namespace Go.Proofs.Ytneehdjaaofjaaa
open Go.RowKit
open Go.Shelf
attribute [local go_sem] Oper.semAt_some
set_option maxRecDepth 100000 in
set_option maxHeartbeats 8000000 in
theorem groups_any (ps : List (Nat × Nat)) (N : Nat) (A : Option Addr) (G : List (List Int)) (w : World) (hG : GrAt w A G none) (hK : GrK (fun a b => (a, b) ∈ ps) N G) (hS : Short 1000 G) (hN : N ≤ 20000) :
    Calls Try.prog 19 #[.slice A N N] w fun e w' => ∃ Q, IsGr N ps Q ∧ RetInts w none Q e w' := by
  have HV1 := Lib.hid (visitor_any A N N G w _ hG hN)
  have HGA := Lib.hid hG
  have HK := Lib.hid hK
  have HS := Lib.hid hS
  clear hG hK hS
  have hro : Fence.wide.round = none := rfl
  refine (callsIn_wide (n := 5)).1 ?_
  refine callsIn_of_wp_marks Try.func19 rfl trivial ?_ hro
  simp only [Try.ntmps19, List.size_toArray, List.length_cons, List.length_nil, Nat.reduceAdd, Nat.reduceSub, Array.replicate_succ, Array.replicate_zero, List.push_toArray, List.append_toArray, List.nil_append, List.cons_append]
  gi_wp2_with (refine ⟨trivial, ?_⟩; gi_at_call 27; refine (callsIn_wide.2 HV1.out).mono ?_; rintro e wb ⟨r, pv, pg, pf, rfl, hV, hM, hg2, hr⟩; refine Hid.out ?_)
  refine Lib.hid ?_
  have HVA := Lib.hid (show VstAt wb A N N G r pv pg pf from hV.mono fun x hx _ => by
    rcases hx with ⟨_, h⟩ | ⟨_, h⟩
    · intro e; injection e with e; omega
    · intro e; injection e with e; omega)
  have HM := Lib.hid hM
  have HG2 := Lib.hid hg2
  have HRW := Lib.hid hr
  have HRB := Lib.hid (show r < wb.heap.size from hM.lt.2)
  have HOW := Lib.hid (own_made wb)
  have HSB := Lib.hid hg2.size
  clear hV hM hg2 hr HV1
  gi_wp2
  gi_loopw [18, 4] (fun i l wr => ∃ (q : Nat) (new : List Nat) (K : List Bool), q ≤ N ∧ i = .int .i64 q ∧ Hid (Seqs ps (List.replicate N false) (List.range q) new K) ∧ Hid (new.length + fcnt K = N) ∧ Hid (MkAt w.heap.size wr r N K) ∧ Hid (OwN wb.heap.size wr l (nI new)) ∧ Hid (wb.grownBy wr (some r))) (fun i _ _ => N - (intOf i).toNat)
  case atStart => exact ⟨0, [], _, Nat.zero_le _, rfl, Seqs.first _ _, Lib.hid (by rw [fcnt_none]; simp), HM.out.gr (gr_alloc (grownBy_refl _ _) _), HOW.out, gr_alloc (grownBy_refl _ _) _⟩
  case round =>
    obtain ⟨q, new, K, hq, rfl, HSQ, HCN, HMK, HOK, HGK⟩ := hrel
    have HGW := Lib.hid (show w.grownBy wr none from gr_own HG2.out HGK.out (fun k hk => by injection hk with hk; have := HRW.out; omega))
    by_cases hlt : q < N
    · have HCL := Lib.hid (visit_any ps N N w.heap.size r pv pg pf _ G wb HVA.out HK.out (HS.out.mono (by omega)) HRB.out (fcnt K) K (nI new) u4 wr q (Nat.le_refl _) (HSQ.out.seg.len.trans (by simp)) hlt HMK.out HOK.out (by rw [nI_len]; have := HCN.out; omega) HGK.out)
      gi_wp2_with (refine ⟨trivial, ?_⟩; gi_at_call 35; refine (callsIn_wide.2 HCL.out).mono ?_; rintro e w5 ⟨new2, K2, v2, rfl, HV2, HC2, HM2, HO2, HG2'⟩; refine Hid.out ?_)
      refine Lib.hid ?_
      gi_wp2
      go_roundw
      case rel => exact ⟨q + 1, new ++ new2, K2, by omega, by go_num, Lib.hid (by rw [List.range_succ]; exact HSQ.out.next HV2.out), Lib.hid (by rw [List.length_append]; have := HC2.out; have := HCN.out; omega), HM2, Lib.hid (by rw [nI_app]; exact HO2.out), HG2'⟩
      case measure => simp [intOf]; omega
    · have hqN : q = N := by omega
      rw [hqN] at HSQ
      clear hq hqN HM HOW
      have HLT := Lib.hid (late_of (ps := ps) (N := N) HSQ.out (fun x hx => List.mem_range.2 hx) (fun a b hab => by
        obtain ⟨r0, h1, h2⟩ := HK.out.all a b hab
        obtain ⟨c1, h3, h4, _⟩ := HK.out.row a r0 h1 _ h2
        have := HK.out.len
        have := (List.getElem?_eq_some_iff.1 h1).1
        exact ⟨by omega, by omega⟩))
      obtain ⟨LA, lc, rfl, hlow⟩ := HOK.out.parts
      have HLOW := Lib.hid hlow
      have HLEN := Lib.hid (show (nI new).length ≤ 20000 by rw [nI_len]; have := HCN.out; omega)
      have HSW := Lib.hid HGW.out.size
      clear HVA HGK HMK hlow HRW HRB HSB HG2
      obtain ⟨i0, hi, hz0, hz1, hz2⟩ := info_parts infoInt
      gi_wp2_with (gi_at_make; go_must (refine wpListIn_make_full _ rfl (.tmp 27) (.tmp 27) 27 rfl wr.heap.size 3 i0 _ 1 Try.underlying27 hi hz0 hz1 .i64 .i64 (N : Int) (N : Int) N rfl rfl rfl rfl (by rw [hz2]; omega) (by unfold maxLen; omega) (Nat.le_refl _) ?_; intro w1 ho1 hg1; have HO1 := Lib.hid (OwN.made ho1); have HG1 := Lib.hid hg1; clear ho1 hg1; refine Hid.out ?_))
      refine Lib.hid ?_
      have hlb := HO1.out.lt wr.heap.size rfl
      obtain ⟨W2, hW2⟩ : ∃ x, x = w1.alloc (.cells #[.slice (some ⟨wr.heap.size, 0, none⟩) N N] 27) := ⟨_, rfl⟩
      have hbx : W2.heap[w1.heap.size]? = some (.cells #[.slice (some ⟨wr.heap.size, 0, none⟩) N N] 27 (0, 0)) := by rw [hW2]; exact heap_alloc_new w1 _
      have hg2 : wr.grownBy W2 none := by rw [hW2]; exact gr_alloc HG1.out _
      have hz2' : W2.heap.size = w1.heap.size + 1 := by rw [hW2]; simp
      have ho2 : OwN wr.heap.size W2 (.slice (some ⟨wr.heap.size, 0, none⟩) N N) (List.replicate N 0) := by rw [hW2]; exact HO1.out.gr (gr_alloc (grownBy_refl _ _) _)
      have HR := Lib.hid (reversed_any _ N N A G W2 (HGA.out.keep (grownBy_trans HGW.out hg2)) HK.out HS.out hN)
      rw [hW2] at HR
      clear hi hz0 hz1 hz2 HO1 HG1
      gi_wp2_with (refine ⟨trivial, ?_⟩; gi_at_call 31; refine (callsIn_wide.2 HR.out).mono ?_; rintro e w3 ⟨o, H, rfl, hlo, hGP, hGK, hSH, hg3⟩; refine Hid.out ?_)
      refine Lib.hid ?_
      rw [← hW2] at hGP hg3 hlo
      have HV2 := Lib.hid (visitor_any (some ⟨o, 0, none⟩) N N H w3 _ hGP hN)
      have HHK := Lib.hid (GrK.congr hGK (fun a b => (rvp_mem (ps := ps) (a := a) (b := b)).symm))
      have HSH := Lib.hid (hSH.mono (show 20000000 ≤ 1000000000000 by omega))
      have HBX := Lib.hid hbx
      have HO2 := Lib.hid ho2
      have HG2 := Lib.hid hg2
      have HG3 := Lib.hid hg3
      generalize hlbn : wr.heap.size = lb at *
      generalize hlxn : w1.heap.size = lx at *
      clear hbx ho2 hg2 hGP hGK hSH hg3 HR hW2 HGA HK HS
      gi_wp2_with (refine ⟨trivial, ?_⟩; gi_at_call 27; refine (callsIn_wide.2 HV2.out).mono ?_; rintro e w4 ⟨r2, qv, qg, qf, rfl, hV, hM, hg4, hr⟩; refine Hid.out ?_)
      refine Lib.hid ?_
      have HVP := Lib.hid hV
      have HM2 := Lib.hid hM
      have HG4 := Lib.hid hg4
      have HR2 := Lib.hid hr
      have HR3 := Lib.hid hM.lt.2
      clear hV hM hg4 hr HV2
      gi_wp2_with (refine ⟨trivial, ?_⟩; gi_at_call 32; refine (backward_in Fence.wide _ trivial rfl _ _ _ _).mono ?_; rintro e w5 ⟨rfl, rfl⟩)
      have h3s := HG3.out.size
      have h4s := HG4.out.size
      have hr2 := HR2.out
      have hr3 := HR3.out
      have hlx := hlb.2
      have hws := HSW.out
      obtain ⟨fv, hfv⟩ : ∃ fv, fv = Value.func (.func 35) #[] #[.pointer (some ⟨qv, 0, none⟩), .pointer (some ⟨qg, 0, none⟩), .pointer (some ⟨qf, 0, none⟩)] := ⟨_, rfl⟩
      obtain ⟨W0, hW0⟩ : ∃ x, x = (w4.alloc (.cells #[.func (.func 35) #[] #[.pointer (some ⟨qv, 0, none⟩), .pointer (some ⟨qg, 0, none⟩), .pointer (some ⟨qf, 0, none⟩)]] 52)).alloc (.cells #[.slice LA (nI new).length lc] 27) := ⟨_, rfl⟩
      rw [← hW0]
      have hg0 : w4.grownBy W0 none := by rw [hW0]; exact gr_alloc (gr_alloc (grownBy_refl _ _) _) _
      have hz0 : W0.heap.size = w4.heap.size + 2 := by rw [hW0]; simp
      have hga : W0.heap[w4.heap.size]? = some (.cells #[fv] 52 (0, 0)) := by
        rw [hW0, ← hfv, Below.heap_alloc _ _ _ (by simp)]
        exact heap_alloc_new w4 _
      have hbk : W0.heap[w4.heap.size + 1]? = some (.cells #[.slice LA (nI new).length lc] 27 (0, 0)) := by
        rw [hW0, ← hfv]
        have h := heap_alloc_new (w4.alloc (.cells #[fv] 52)) (.cells #[.slice LA (nI new).length lc] 27)
        rwa [World.size_alloc] at h
      have g20 : W2.grownBy W0 none := grownBy_trans HG3.out (grownBy_trans HG4.out hg0)
      have gr0 : wr.grownBy W0 none := grownBy_trans HG2.out g20
      have hGI : GrI w ps N new H o r2 qv qg qf lb lx w4.heap.size (List.replicate N false) (List.replicate N 0) [] W0 := by
        refine ⟨by simp, by simp, fun _ => GInv.first ps N new _ (by simp), (HVP.out.mono (U := fun k => lx < k ∧ k ≠ r2 ∧ k < w4.heap.size) fun x hx hl => ?_).keep fun k _ hl => hg0.block k hl (by simp), ?_, by rw [← hfv]; exact hga, (g20.block _ (lt_of_heap HBX.out) (by simp)).trans HBX.out, HO2.out.gr g20, below_of_far (grownBy_trans HGW.out gr0) (Nat.le_refl _) (fun k hk => by cases hk), by omega⟩
        · rcases hx with ⟨h1, h2⟩ | ⟨h1, h2⟩
          · exact ⟨by omega, by omega, hl⟩
          · exact ⟨by omega, h2, hl⟩
        · have hm := HM2.out.gr hg0
          exact ⟨hm.1, hm.2.imp id fun ⟨g, cap, cur, e0, hg, qq⟩ => ⟨g, cap, cur, e0, by omega, qq⟩⟩
      have hnN : ∀ x ∈ new, x < N := fun x hx => by
        have := mk_lt ((HSQ.out.seg.mks x).2 (.inr hx))
        rw [HSQ.out.seg.len, List.length_replicate] at this
        exact this
      have hIW : IntsP (fun y => ((y % N : Nat) : Int)) (fun k => k < lb ∨ k = w4.heap.size + 1) W0 (.slice LA (nI new).length lc) new := by
        rcases (HOK.out.gr gr0).intsB (fun k => k < lb ∨ k = w4.heap.size + 1) (fun k hk => .inl (HLOW.out k hk).2) with ⟨e1, e2⟩ | ⟨b, cap, e1, e2, e3⟩
        · exact .inl ⟨e1, by unfold nI at e2; exact List.map_eq_nil_iff.1 e2⟩
        · refine .inr ⟨b, cap, by rw [e1, nI_len], e2, fun j hj => ?_⟩
          rw [e3 j (by rw [nI_len]; exact hj)]
          congr 2
          unfold nI
          rw [List.getElem?_map, List.getElem?_eq_getElem hj]
          simp only [Option.map_some, Option.getD_some]
          rw [Nat.mod_eq_of_lt (hnN _ (List.getElem_mem hj))]
      have hcs : W0.cell? ⟨w4.heap.size + 1, 0, none⟩ = some (.slice LA (nI new).length lc) := by simp [World.cell?, hbk]
      have HNN := Lib.hid hnN
      have HIW := Lib.hid hIW
      have HGI := Lib.hid hGI
      have HCS := Lib.hid hcs
      have hnl : new.length ≤ 20000 := by have := HLEN.out; rwa [nI_len] at this
      clear hW0 hg0 hga hbk g20 gr0 hGI hnN hIW hcs hfv HO2 HBX HVP HM2 HG2 HG3 HG4 HR2 HR3
      generalize hC : w4.heap.size = C at *
      refine wpIn_rangeFunc_ownG hro (by omega) (gf := 38) (lb := #[.pointer (some ⟨C + 1, 0, none⟩)]) rfl trivial (enters_of Try.func38 (by kernel_rfl) rfl)
        (backwardP_stops Fence.wide 4 trivial rfl (by omega) (C + 1) (fun k => k < lb ∨ k = C + 1) _ (fun y => ((y % N : Nat) : Int)) new (by omega) W0 (.inr rfl) HCS.out HIW.out) KeepsOn.trans
        (fun W l ob ob' hl' _ _ _ => KeepsOn.putObj (fun e => by rcases e with e | e <;> omega) ob') (Below.refl _ _) (fun _ => rfl)
        (fun pre W => ∃ K Q, GrI w ps N new H o r2 qv qg qf lb lx C K Q pre W)
        (fun _ _ _ => False)
        (fun pre W W' row hs hg hr => by
          obtain ⟨K1, Q1, h⟩ := hs
          exact ⟨K1, Q1, h.to (below_of_far hg h.size (fun k hk => by have := (hr k hk).1; omega)) hlx (by omega) (by omega) (by omega)⟩)
        (fun _ _ _ _ _ hs _ _ => hs)
        ⟨_, _, HGI.out⟩
        (fun x => { tmps := #[.slice A N N, undef, .slice none 0 0, .func (.func 35) #[] #[.pointer (some ⟨pv, 0, none⟩), .pointer (some ⟨pg, 0, none⟩), .pointer (some ⟨pf, 0, none⟩)], .slice LA (nI new).length lc, u5, .pointer (some ⟨lx, 0, none⟩), .pointer (some ⟨C, 0, none⟩), undef, .int .i64 ((x.2 % N : Nat) : Int), undef, undef, undef, .slice A N N, .func (.func 35) #[] #[.pointer (some ⟨pv, 0, none⟩), .pointer (some ⟨pg, 0, none⟩), .pointer (some ⟨pf, 0, none⟩)], .slice (some ⟨wb.heap.size, 0, none⟩) 0 0, .slice A N N, .int .i64 (N : Int), .int .i64 (q : Int), .bool false, u20, u21, u22, u23, u24, u25, .slice A N N, .int .i64 (N : Int), .slice (some ⟨lb, 0, none⟩) N N, .slice A N N, .slice (some ⟨o, 0, none⟩) N N, .func (.func 35) #[] #[.pointer (some ⟨qv, 0, none⟩), .pointer (some ⟨qg, 0, none⟩), .pointer (some ⟨qf, 0, none⟩)], .slice LA (nI new).length lc, .func (.func 38) #[] #[.pointer (some ⟨C + 1, 0, none⟩)], .int .i64 (x.1 : Int), .int .i64 ((x.2 % N : Nat) : Int), undef, undef, undef, undef, undef, undef, undef, undef, undef, undef, undef, undef, undef, undef, undef, undef, undef, undef, undef], defers := [] }) ?assign ?body ?done ?stop
      case assign =>
        intro l x W K1 hK
        gi_wp2
        exact hK
      case body =>
        rintro l pre x W ⟨K1, Q1, hI⟩ hpl
        have hnx : ∃ y, y ∈ new := ⟨new[0]'(by omega), List.getElem_mem _⟩
        obtain ⟨y, hy⟩ := hnx
        have hN0 := HNN.out y hy
        have hiN : x.2 % N < N := Nat.mod_lt _ (by omega)
        have HI := Lib.hid hI
        have hsz := hI.size
        have HF := Lib.hid (show fcnt K1 ≤ 20000 by
          have h1 : fcnt K1 ≤ K1.length := List.countP_le_length
          have := hI.klen
          omega)
        have HCL := Lib.hid (visit_any (rvp ps) N N lx r2 qv qg qf _ H W (hI.vst.mono fun z hz _ => fun e => hz.2.1 (by injection e)) HHK.out HSH.out (by omega) (fcnt K1) K1 [] (.slice none 0 0) W (x.2 % N) (Nat.le_refl _) hI.klen hiN hI.mks (OwN.nil _ _) (by have := HF.out; simp; omega) (grownBy_refl _ _))
        have c1 : W.cell? ⟨C, 0, none⟩ = some (.func (.func 35) #[] #[.pointer (some ⟨qv, 0, none⟩), .pointer (some ⟨qg, 0, none⟩), .pointer (some ⟨qf, 0, none⟩)]) := by simp [World.cell?, hI.gat]
        have c2 : W.cell? ⟨lx, 0, none⟩ = some (.slice (some ⟨lb, 0, none⟩) N N) := by simp [World.cell?, hI.box]
        clear hI hy
        generalize hii : x.2 % N = i at *
        have HII := Lib.hid hii
        clear hii
        gi_wp2_with (refine ⟨trivial, ?_⟩; gi_at_call 35; refine (CallsIn.inRound l (callsIn_wide.2 HCL.out)).mono ?_; rintro e W5 ⟨nw, K2, v2, rfl, HV2, HC2, HM5, HO5, HG5⟩; refine Hid.out ?_)
        refine Lib.hid ?_
        have HO5' := Lib.hid (show OwN W.heap.size W5 v2 (nI nw) from HO5.out)
        obtain ⟨A5, c5, rfl⟩ := HO5'.out.slice
        have HL5 := Lib.hid (show (nI nw).length ≤ 20000 by rw [nI_len]; have := HC2.out; have := HF.out; omega)
        have HSO := Lib.hid (sort_own W.heap.size _ (nI nw) W5 HO5'.out (by have := HL5.out; omega))
        have c2' := gr_cell HG5.out c2 (by intro e; injection e with e; have e : lx = r2 := e; omega)
        clear c1 c2 HO5 HCL
        gi_wp2_with (refine ⟨trivial, ?_⟩; gi_at_call 29; refine (CallsIn.inRound l (callsIn_wide.2 HSO.out)).mono ?_; rintro e W6 ⟨rfl, ho6, hg6⟩; refine Hid.out ?_)
        refine Lib.hid ?_
        obtain ⟨c0, hc0⟩ := sort_least nw HV2.out.seg.nd
        obtain ⟨_, hmem⟩ := sort_rise HV2.out.seg.nd
        have hsl : ((nI nw).mergeSort fun x y => decide (x ≤ y)).length = (nI nw).length := List.length_mergeSort _
        generalize ((nI nw).mergeSort fun x y => decide (x ≤ y)) = S at *
        have hTW := ((Two.refl r2 lb W).then_ HG5.out (fun k hk => .inl (by injection hk with hk; exact hk.symm))).then_ hg6 (fun k hk => .inr (.inr (HO5'.out.lt k hk).1))
        have HM6 := Lib.hid (HM5.out.to (hg6.block r2 (HM5.out.lt.2) (fun e => by have := (HO5'.out.lt r2 e.symm).1; omega)))
        have HLX6 := Lib.hid (gr_cell hg6 c2' (fun e => by have := (HO5'.out.lt _ e.symm).1; have h2 : W.heap.size ≤ lx := this; omega))
        have HO6 := Lib.hid (HI.out.own.to (W' := W6) (fun g hg => by
          have hg : lb = g := by injection hg
          subst hg
          have h1 := hg6.block lb (Nat.lt_of_lt_of_le (by omega) HG5.out.size) (fun e => by have := (HO5'.out.lt _ e.symm).1; omega)
          exact h1.trans (HG5.out.block lb (by omega) (by intro e; injection e with e; omega))))
        have HTW := Lib.hid hTW
        have HBK := Lib.hid (show ∀ bd, A5 = some bd → W.heap.size ≤ bd.block from fun bd e => by
          subst e
          obtain ⟨A', c', e1, _, e3⟩ := ho6.ints
          injection e1 with e1
          exact e3 bd e1.symm)
        have HI6 := Lib.hid (show IntsAt W6 A5 S.length c5 S from by
          obtain ⟨A', c', e1, e2, _⟩ := ho6.ints
          injection e1 with e1 e4 e5
          rw [e1, e5]
          exact e2)
        have HC0 := Lib.hid hc0
        have HMEM := Lib.hid hmem
        have HL6 := HL5.out
        rw [← hsl] at HL6 ⊢
        have HSL := Lib.hid hsl
        clear ho6 hg6 hc0 hmem hsl hTW c2' HO5' HSO
        gi_wp2
        gi_loopw [43] (fun i wi => ∃ (t : Nat) (Q2 : List Int), t ≤ S.length ∧ i = .int .i64 t ∧ Q2.length = N ∧ Hid (∀ b : Nat, (b : Int) ∈ S.take t → Q2[b]? = some (c0 : Int)) ∧ Hid (∀ b : Nat, (b : Int) ∉ S.take t → Q2[b]? = Q1[b]?) ∧ Hid (OwN lb wi (.slice (some ⟨lb, 0, none⟩) N N) Q2) ∧ Hid (Two r2 lb W wi) ∧ Hid (W6.grownBy wi (some lb))) (fun i _ => S.length - (intOf i).toNat)
        case atStart => exact ⟨0, Q1, Nat.zero_le _, rfl, HI.out.qlen, Lib.hid (fun b hb => by simp at hb), Lib.hid (fun b _ => rfl), HO6, HTW, grownBy_refl _ _⟩
        case round =>
          obtain ⟨t, Q2, ht, rfl, hq2, HQA, HQB, HOQ, HTQ, HGQ⟩ := hrel
          by_cases hlt : t < S.length
          · have hx := List.getElem?_eq_getElem hlt
            have hne : nw ≠ [] := by
              intro e
              have := HSL.out
              rw [e] at this
              have h0 : (nI []).length = 0 := rfl
              omega
            obtain ⟨hz, hcm, _⟩ := HC0.out hne
            obtain ⟨j, hj, hxj⟩ : ∃ j : Nat, j ∈ nw ∧ S[t] = (j : Int) := by
              have h1 := (HMEM.out S[t]).1 (List.getElem_mem hlt)
              unfold nI at h1
              obtain ⟨j, h2, h3⟩ := List.mem_map.1 h1
              exact ⟨j, h2, h3.symm⟩
            rw [hxj] at hx
            have hjN : j < N := by
              have := mk_lt ((HV2.out.seg.mks j).2 (.inr hj))
              rw [HV2.out.seg.len, HI.out.klen] at this
              exact this
            obtain ⟨bd, rfl, _⟩ := HI6.out.at_ hlt
            have hbk := HBK.out bd rfl
            have hIw := HI6.out.keepO HGQ.out (fun b' e _ => by intro e2; injection e with e; subst e; injection e2 with e2; omega)
            have d0 := hIw.cellOf hz
            have d0' : wr.cell? bd = some (.int .i64 (c0 : Int)) := by simpa [Addr.add] using d0
            have d1 := hIw.cellOf hx
            have d2 := gr_cell HGQ.out HLX6.out (by intro e; injection e with e; have e : lx = lb := e; omega)
            have hj2 := List.getElem?_eq_getElem (show j < Q2.length by omega)
            have d3 := HOQ.out.cell hq2.symm hj2
            have d4 := HOQ.out.fr hq2.symm j
            have HTK := Lib.hid (show S.take (t + 1) = S.take t ++ [(j : Int)] by rw [List.take_add_one, hx]; rfl)
            clear hIw hj2 hxj hx hz
            gi_wp2
            obtain ⟨k1, k2⟩ := HOQ.out.set hq2.symm j (c0 : Int)
            have HK1 := Lib.hid (k1.gr (grownBy_refl _ none).gr_drew)
            have HK2 := Lib.hid k2.gr_drew
            clear k1 k2
            refine wpIn_mono (Q := fun e a' w' => e = Exit.normal ∧ a' = { tmps := #[.slice A N N, undef, .slice none 0 0, .func (.func 35) #[] #[.pointer (some ⟨pv, 0, none⟩), .pointer (some ⟨pg, 0, none⟩), .pointer (some ⟨pf, 0, none⟩)], .slice LA (nI new).length lc, u5, .pointer (some ⟨lx, 0, none⟩), .pointer (some ⟨C, 0, none⟩), undef, .int .i64 (i : Int), .slice (some bd) S.length c5, undef, .int .i64 (j : Int), .slice A N N, .func (.func 35) #[] #[.pointer (some ⟨pv, 0, none⟩), .pointer (some ⟨pg, 0, none⟩), .pointer (some ⟨pf, 0, none⟩)], .slice (some ⟨wb.heap.size, 0, none⟩) 0 0, .slice A N N, .int .i64 (N : Int), .int .i64 (q : Int), .bool false, u20, u21, u22, u23, u24, u25, .slice A N N, .int .i64 (N : Int), .slice (some ⟨lb, 0, none⟩) N N, .slice A N N, .slice (some ⟨o, 0, none⟩) N N, .func (.func 35) #[] #[.pointer (some ⟨qv, 0, none⟩), .pointer (some ⟨qg, 0, none⟩), .pointer (some ⟨qf, 0, none⟩)], .slice LA (nI new).length lc, .func (.func 38) #[] #[.pointer (some ⟨C + 1, 0, none⟩)], .int .i64 (x.1 : Int), .int .i64 (i : Int), .func (.func 35) #[] #[.pointer (some ⟨qv, 0, none⟩), .pointer (some ⟨qg, 0, none⟩), .pointer (some ⟨qf, 0, none⟩)], .int .i64 (i : Int), .slice (some bd) S.length c5, .slice (some bd) S.length c5, .tuple #[], .slice (some bd) S.length c5, .int .i64 (S.length : Int), .int .i64 (t : Int), .bool true, .pointer (some (bd.add t)), .int .i64 (j : Int), .slice (some ⟨lb, 0, none⟩) N N, .int .i64 (j : Int), .slice (some bd) S.length c5, .pointer (some bd), .int .i64 (c0 : Int), .pointer (some ⟨lb, j, none⟩), u53, undef], defers := [] } ∧ w' = (wr.setCell ⟨lb, j, none⟩ (.int .i64 (c0 : Int))).drew) ?hreg ?hgo
            case hreg =>
              gi_region
              all_goals exact ⟨rfl, rfl, rfl⟩
            case hgo =>
              rintro e a' w' ⟨rfl, rfl, rfl⟩
              gi_wp2
              go_roundw
              case rel => exact ⟨t + 1, Q2.set j (c0 : Int), by omega, by go_num, by rw [List.length_set]; exact hq2, Lib.hid (fun b hb => by
                rw [List.getElem?_set]
                by_cases e : j = b
                · subst e
                  rw [if_pos rfl, if_pos (by omega)]
                · rw [if_neg e]
                  rw [HTK.out, List.mem_append, List.mem_singleton] at hb
                  exact HQA.out b (hb.resolve_right (fun h => e (by omega)))), Lib.hid (fun b hb => by
                rw [HTK.out, List.mem_append, List.mem_singleton, not_or] at hb
                rw [List.getElem?_set, if_neg (fun e => hb.2 (by omega))]
                exact HQB.out b hb.1), HK1, Lib.hid (HTQ.out.then_ HK2.out (fun k hk => .inr (.inl (by injection hk with hk; exact hk.symm)))), Lib.hid (grownBy_trans HGQ.out HK2.out)⟩
              case measure => simp [intOf]; omega
          · obtain rfl : t = S.length := by omega
            rw [List.take_length] at HQA HQB
            have HNX := Lib.hid (HI.out.next (x := x) HTQ.out hlx (by omega) hr3 hws HSQ.out.seg.nd HSQ.out.seg.late HLT.out.2 HNN.out hpl (by rw [HII.out]; exact HV2.out) (HM6.out.to (HGQ.out.block r2 HM6.out.lt.2 (by intro e; injection e with e; omega))) HOQ.out hq2 (fun h => (HC0.out h).2) (fun b hb => HQA.out b ((HMEM.out _).2 (nI_mem.2 hb))) (fun b hb => HQB.out b (fun h => hb (nI_mem.1 ((HMEM.out _).1 h)))))
            have HTQ' := HTQ
            gi_wp2
            refine ⟨⟨HTQ.out.size, fun k ob hk ho _ => ?_⟩, ⟨HTQ.out.size, fun g hs hg => HTQ.out.block g hg (by rcases hs with h | h <;> omega) (by rcases hs with h | h <;> omega)⟩, K2, Q2, HNX.out⟩
            exact (HTQ.out.block k (lt_of_heap ho) (by omega) (by omega)).trans ho
      case done =>
        rintro E ys W hE rfl ⟨K1, Q1, hI⟩ hK
        have hGR := hI.inv (by rw [upto_length])
        rw [upto_length, Nat.sub_self] at hGR
        have HGR := Lib.hid (hGR.gr HLT.out.1)
        have c2 : W.cell? ⟨lx, 0, none⟩ = some (.slice (some ⟨lb, 0, none⟩) N N) := by simp [World.cell?, hI.box]
        have HI := Lib.hid hI
        have HK' := Lib.hid hK
        clear hGR hI hK
        gi_wp2
        refine ⟨by simp, .inl ⟨_, _, rfl, run_takeDeferred HK'.out, ?_⟩⟩
        have hpo : ∀ g, g < W0.heap.size → (W.putObj E (.deferred none)).heap[g]? = W.heap[g]? := fun g hg => World.putObj_heap_other (by omega)
        have hgw : w.grownBy (W.putObj E (.deferred none)) none := ⟨HI.out.low.os, HI.out.low.tape, HI.out.low.output, Nat.le_trans HI.out.low.size (by simp), fun k hk _ => (hpo k (by omega)).trans (HI.out.low.block k hk)⟩
        have hown := HI.out.own.to (W' := W.putObj E (.deferred none)) (fun g hg => by
          have hg : lb = g := by injection hg
          subst hg
          exact hpo _ (by omega))
        refine ⟨.slice (some ⟨lb, 0, none⟩) N N, by simp [results, Try.results19, go_sem], Q1, HGR.out, ?_⟩
        have hql := HI.out.qlen
        exact RetInts.own (n := Q1.length) hown hws hgw
      case stop =>
        rintro E c pre W _ _ h _
        exact h.elim

end Go.Proofs.Ytneehdjaaofjaaa
