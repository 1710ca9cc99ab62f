/- MemBack, walked. -/
import Derived.Test.YtblhnjoophhliaaM19
namespace Go.Proofs.Ytblhnjoophhliaa
open Go.RowKit
def bkB (x : Nat) : Blk := newB 0 x true
theorem bk0 (g x : Nat) (h : x < 256) : allocP [] g 0 x true = ([(g, bkB x)], 1, 0) := by
  unfold allocP
  rw [if_pos (show allB x ([] : List (Nat × Blk)).length = true from decide_eq_true (by simp; omega)), Int.toNat_natCast]
  rfl
theorem bk_held (x : Nat) : Held (bkB x).bytes := by
  intro b hb
  have := List.eq_of_mem_replicate (show b ∈ List.replicate x _ from hb)
  subst this
  exact .inl rfl
theorem wrap32_mod (n : Int) : wrap32 (n % 4294967296) = wrap32 n := by unfold wrap32; omega
theorem wrap64_mod (n : Int) (h : -9223372036854775808 ≤ n ∧ n ≤ 9223372036854775807) : wrap64 (n % 18446744073709551616) = n := by unfold wrap64; omega
theorem back_cases {vn vb vf bn bb bf : Int} {n : Nat} (hw : welB ⟨vn, vb, vf⟩ = true) (hq : -9223372036854775808 ≤ vn ∧ vn ≤ 9223372036854775807) (hn : n = 1 ∨ n = 4 ∨ n = 8) (hb : (⟨bn, bb, bf⟩ : Val) = backV ⟨vn, vb, vf⟩ n) :
    (0 < vb ∧ decide (0 < vb) = true ∧ (⟨bn, bb, bf⟩ : Val) = ⟨vn, vb, vf⟩) ∨ (decide (0 < vb) = false ∧ ((n : Int) == 8) = true ∧ (⟨bn, bb, bf⟩ : Val) = ⟨vn, vb, vf⟩) ∨
    (decide (0 < vb) = false ∧ n = 1 ∧ 0 ≤ vn % 256 ∧ (⟨bn, bb, bf⟩ : Val) = ⟨vn % 256, 0, 0⟩) ∨ (decide (0 < vb) = false ∧ n = 4 ∧ 0 ≤ vn % 256 ∧ (⟨bn, bb, bf⟩ : Val) = ⟨wrap64 (wrap32 vn), 0, 0⟩) := by
  have hw := of_decide_eq_true (show decide _ = true from hw)
  dsimp only at hw
  by_cases h0 : 0 < vb
  · refine .inl ⟨h0, decide_eq_true h0, ?_⟩
    rw [hb]
    unfold backV
    rw [if_neg (by show ¬ vb = 0; omega)]
  · obtain rfl : vb = 0 := by omega
    obtain rfl : vf = 0 := by omega
    unfold backV at hb
    rw [if_pos rfl] at hb
    rcases hn with rfl | rfl | rfl
    · refine .inr (.inr (.inl ⟨rfl, rfl, by omega, ?_⟩))
      rw [hb, if_neg (by simp), show (256 : Int) ^ 1 = 256 from rfl, IntWalk.wrap64_in _ (by omega)]
    · refine .inr (.inr (.inr ⟨rfl, rfl, by omega, ?_⟩))
      rw [hb, if_pos rfl, show (256 : Int) ^ 4 = 4294967296 from rfl, wrap32_mod]
    · refine .inr (.inl ⟨rfl, rfl, ?_⟩)
      rw [hb, if_neg (by simp), show (256 : Int) ^ 8 = 18446744073709551616 from rfl, wrap64_mod _ hq]
structure BkR (w : World) (m : Nat) (L : List (Nat × Blk)) (v : Val) (q : Nat) (r : Val) (W : World) : Prop where
  st : St w W m L
  vb : VBox W w.heap.size v
  vr : VBox W q r
theorem BkR.grown {w a b : World} {m q : Nat} {L : List (Nat × Blk)} {v r : Val} (h : BkR w m L v q r a) (g : a.grownBy b none) : BkR w m L v q r b := ⟨h.st.gr' g, h.vb.gr g (by simp), h.vr.gr g (by simp)⟩
theorem BkR.drew {w a : World} {m q : Nat} {L : List (Nat × Blk)} {v r : Val} (h : BkR w m L v q r a) : BkR w m L v q r a.drew := ⟨h.st.gr' (grownBy_refl a none).gr_drew, h.vb, h.vr⟩
theorem BkR.keep {w a b : World} {m q : Nat} {L L' : List (Nat × Blk)} {v r : Val} (h : BkR w m L v q r a) (s : St w b m L') (k : Keep a b L) : BkR w m L' v q r b := ⟨s, h.vb.keep k, h.vr.keep k⟩
theorem BkR.cells {w W : World} {m q : Nat} {L : List (Nat × Blk)} {n b f n' b' f' : Int} (h : BkR w m L ⟨n, b, f⟩ q ⟨n', b', f'⟩ W) : W.cell? ⟨w.heap.size, 0, none⟩ = some (.int .i64 n) ∧ W.cell? ⟨w.heap.size, 1, none⟩ = some (.int .i64 b) ∧ W.cell? ⟨w.heap.size, 2, none⟩ = some (.int .i64 f) ∧
    W.cell? ⟨q, 0, none⟩ = some (.int .i64 n') ∧ W.cell? ⟨q, 1, none⟩ = some (.int .i64 b') ∧ W.cell? ⟨q, 2, none⟩ = some (.int .i64 f') ∧ w.heap.size < W.heap.size ∧ q < W.heap.size :=
  ⟨h.vb.cells.1, h.vb.cells.2.1, h.vb.cells.2.2, h.vr.cells.1, h.vr.cells.2.1, h.vr.cells.2.2, lt_of_heap h.vb, lt_of_heap h.vr⟩
set_option maxRecDepth 100000 in
set_option maxHeartbeats 8000000 in
theorem back_walk (x : Nat) (hx : x < 256) (q wd : Int) (v : Val) (o : Int) (hq : -9223372036854775808 ≤ v.n ∧ v.n ≤ 9223372036854775807) (w : World) :
    Calls Try.prog 4 #[.int .u8 x, .int .i64 q, .int .i64 wd, valV v, .int .i64 o] w fun e w' => e = .returned (.bool true) ∧ w.grownBy w' none := by
  obtain ⟨vn, vb, vf⟩ := v
  unfold valV valC
  dsimp only at hq ⊢
  have HV0 := Lib.hid (VB.new3 w vn vb vf)
  have HQ := Lib.hid hq
  clear hq
  go_enter Try.func4, Try.ntmps4
  go_wp2_with fail
  refine (shown_any _).mono ?_
  rintro e w1 ⟨rfl, hg⟩
  have HV1 := Lib.hid (HV0.out.grown hg)
  clear hg HV0
  go_wp2_with fail
  refine (New_any w1).mono ?_
  rintro e w2 ⟨rfl, rfl⟩
  have HS2 := Lib.hid (St.new w w1 HV1.out.gr)
  have HV2 := Lib.hid (HV1.out.grown (gr_alloc (grownBy_refl w1 none) (.cells #[.slice none 0 0] 73)))
  go_wp2_with fail
  refine (alloc_st 0 x true HS2.out).mono ?_
  rintro e w3 ⟨rfl, hs, hkk⟩
  rw [bk0 _ x hx] at hs ⊢
  dsimp only at hs ⊢
  have HS3 := Lib.hid hs
  have HB3 := Lib.hid (HV2.out.box.keep hkk)
  clear hs hkk HS2 HV1 HV2
  generalize (w1.alloc (.cells #[.slice none 0 0] 73)).heap.size = g at *
  generalize w1.heap.size = m at *
  obtain ⟨x0, x1, x2⟩ := HB3.out.cells
  replace x0 : w3.cell? ⟨w.heap.size, 0, none⟩ = some (.int .i64 vn) := x0
  replace x1 : w3.cell? ⟨w.heap.size, 1, none⟩ = some (.int .i64 vb) := x1
  replace x2 : w3.cell? ⟨w.heap.size, 2, none⟩ = some (.int .i64 vf) := x2
  go_wp2_with fail
  refine (show Calls Try.prog 12 #[.agg #[.int .i64 vn, .int .i64 vb, .int .i64 vf]] w3 _ from well_any ⟨vn, vb, vf⟩ _).mono ?_
  rintro e w4 ⟨rfl, hg⟩
  have HS4 := Lib.hid (HS3.out.gr' hg)
  have HB4 := Lib.hid (HB3.out.gr hg (by simp))
  clear hg x0 x1 x2 HS3 HB3
  by_cases hw : welB ⟨vn, vb, vf⟩ = true
  · rw [hw]
    have HW := Lib.hid hw
    clear hw
    go_wp2_with fail
    refine (at_any _ _).mono ?_
    rintro e w5 ⟨rfl, hg⟩
    have HS5 := Lib.hid (HS4.out.gr' hg)
    have HB5 := Lib.hid (HB4.out.gr hg (by simp))
    clear hg HS4 HB4
    go_wp2_with fail
    refine (show Calls Try.prog 17 #[.pointer (some ⟨m, 0, none⟩), .agg #[.int .i64 o, .int .i64 1, .int .i64 0], .int .i64 1] w5 _ from load_st ⟨o, 1, 0⟩ 1 HS5.out).mono ?_
    rintro e w6 ⟨rfl, hs, hg⟩
    obtain ⟨⟨⟨rn, rb, rf⟩, re⟩, hr⟩ : ∃ r, r = loadP [(g, bkB x)] ⟨o, 1, 0⟩ 1 := ⟨_, rfl⟩
    rw [← hr]
    have HR := Lib.hid hr
    have HX6 := Lib.hid (show BkR w m [(g, bkB x)] ⟨vn, vb, vf⟩ w6.heap.size ⟨rn, rb, rf⟩ (w6.alloc (.cells #[.int .i64 rn, .int .i64 rb, .int .i64 rf] 29)) from
      ⟨hs.gr' (gr_alloc (grownBy_refl w6 none) _), (HB5.out.gr hg (by simp)).gr (gr_alloc (grownBy_refl w6 none) _) (by simp), VBox.new w6 ⟨rn, rb, rf⟩⟩)
    clear hs hg hr HS5 HB5
    unfold valV valC
    go_wp2_with fail
    have HY := BkR.drew HX6.out
    obtain ⟨x0, x1, x2, x3, x4, x5, hz, hz'⟩ := HY.cells
    obtain ⟨⟨L, se⟩, hse⟩ : ∃ r, r = storeP [(g, bkB x)] ⟨q, 1, 0⟩ wd ⟨vn, vb, vf⟩ := ⟨_, rfl⟩
    have HSE := Lib.hid hse
    have HST := Lib.hid (fun (W : World) (hW : BkR w m [(g, bkB x)] ⟨vn, vb, vf⟩ w6.heap.size ⟨rn, rb, rf⟩ W) => (show Calls Try.prog 19 #[.pointer (some ⟨m, 0, none⟩), .agg #[.int .i64 q, .int .i64 1, .int .i64 0], .int .i64 wd, .agg #[.int .i64 vn, .int .i64 vb, .int .i64 vf]] W (fun e w' => e = .returned (.int .i64 se) ∧ St w w' m L ∧ Keep W w' [(g, bkB x)]) from by have h := store_st ⟨q, 1, 0⟩ ⟨vn, vb, vf⟩ wd hW.st; rw [← hse] at h; exact h))
    clear hse
    go_region_with (first
      | (go_at_call 31; refine (at_any _ _).mono ?_; rintro e w' ⟨rfl, hg⟩; have hbx := BkR.grown (by assumption) hg; clear hg; obtain ⟨x0, x1, x2, x3, x4, x5, hz, hz'⟩ := hbx.cells)
      | (go_at_call 19; refine (HST.out _ (by assumption)).mono ?_; rintro e w'' ⟨rfl, hs, hk⟩; have hby := BkR.keep hbx hs hk; clear hs hk))
    all_goals
      clear hbx HY x0 x1 x2 x3 x4 x5 hz hz' HX6 HST
      have HZ := Lib.hid hby
      clear hby
      obtain ⟨x0, x1, x2, x3, x4, x5, hz, hz'⟩ := HZ.out.cells
      by_cases hse : se = 0
      · subst hse
        obtain ⟨⟨n, rfl, hn, hbk⟩, hre, hri⟩ := back_facts (g := g) (b := bkB x) rfl (bk_held x) HW.out HSE.out.symm o
        obtain ⟨qa, qn, ql, hqa, _, hq1, hq8, hqs, _, _⟩ := back_stored (g := g) (b := bkB x) HSE.out.symm
        have hqx : qa + qn ≤ x := by have e := hqs; rwa [show (bkB x).bytes.length = x from newB_len _ _ _] at e
        have hqn : (n : Int) = qn := by assumption
        obtain rfl : n = qn := by omega
        subst hqa
        obtain ⟨⟨⟨sn, sb, sf⟩, te⟩, hs⟩ : ∃ r, r = loadP L ⟨o, 1, 0⟩ 1 := ⟨_, rfl⟩
        rw [← HR.out, ← hs] at hre hri
        dsimp only at hre hri
        obtain rfl : re = te := hre
        have HBK := Lib.hid hbk
        have HRI := Lib.hid hri
        have HSX := Lib.hid hs
        have hn8 : n ≤ 8 := hq8
        have hqx2 : qa + n ≤ x := hqx
        clear hbk hri hs hqs hq1 hq8
        go_wp2_with fail
        refine (at_any _ _).mono ?_
        rintro e wa ⟨rfl, hg⟩
        have HZa := Lib.hid (HZ.out.grown hg)
        clear hg HZ
        clear x0 x1 x2 x3 x4 x5 hz hz'
        try clear x0 x1 x2 x3 x4 x5 hz hz'
        go_wp2_with fail
        refine (show Calls Try.prog 17 #[.pointer (some ⟨m, 0, none⟩), .agg #[.int .i64 qa, .int .i64 1, .int .i64 0], .int .i64 n] wa _ from load_st ⟨qa, 1, 0⟩ n HZa.out.st).mono ?_
        rintro e wb ⟨rfl, hs, hg⟩
        rw [HBK.out]
        obtain ⟨⟨bn, bb, bf⟩, hbv⟩ : ∃ r, r = backV ⟨vn, vb, vf⟩ n := ⟨_, rfl⟩
        rw [← hbv]
        have HBV := Lib.hid hbv
        have HZb := Lib.hid ((HZa.out.grown hg).grown (gr_alloc (grownBy_refl wb none) (.cells #[.int .i64 bn, .int .i64 bb, .int .i64 bf] 29)))
        have HUb := Lib.hid (show VBox (wb.alloc (.cells #[.int .i64 bn, .int .i64 bb, .int .i64 bf] 29)) wb.heap.size ⟨bn, bb, bf⟩ from VBox.new wb ⟨bn, bb, bf⟩)
        clear hs hg hbv HZa HBK
        unfold valV valC
        go_wp2_with fail
        refine (at_any _ _).mono ?_
        rintro e wc ⟨rfl, hg⟩
        have HZc := Lib.hid (HZb.out.grown hg)
        have HUc := Lib.hid (HUb.out.gr hg (by simp))
        clear hg HZb HUb
        go_wp2_with fail
        refine (show Calls Try.prog 17 #[.pointer (some ⟨m, 0, none⟩), .agg #[.int .i64 o, .int .i64 1, .int .i64 0], .int .i64 1] wc _ from load_st ⟨o, 1, 0⟩ 1 HZc.out.st).mono ?_
        rintro e wd ⟨rfl, hs, hg⟩
        rw [← HSX.out]
        have HZd := Lib.hid ((HZc.out.grown hg).grown (gr_alloc (grownBy_refl wd none) (.cells #[.int .i64 sn, .int .i64 sb, .int .i64 sf] 29)))
        have HUd := Lib.hid ((HUc.out.gr hg (by simp)).gr (gr_alloc (grownBy_refl wd none) (.cells #[.int .i64 sn, .int .i64 sb, .int .i64 sf] 29)) (by simp))
        clear hs hg HZc HUc
        have hq0 : (0 : Int) ≤ qa := by omega
        have hq1 : (qa : Int) ≤ 255 := by omega
        unfold valV valC
        obtain ⟨x0, x1, x2, x3, x4, x5, hz, hz'⟩ := HZd.out.cells
        obtain ⟨y0, y1, y2⟩ := HUd.out.cells
        replace y0 : (wd.alloc (.cells #[.int .i64 sn, .int .i64 sb, .int .i64 sf] 29)).cell? ⟨wb.heap.size, 0, none⟩ = some (.int .i64 bn) := y0
        replace y1 : (wd.alloc (.cells #[.int .i64 sn, .int .i64 sb, .int .i64 sf] 29)).cell? ⟨wb.heap.size, 1, none⟩ = some (.int .i64 bb) := y1
        replace y2 : (wd.alloc (.cells #[.int .i64 sn, .int .i64 sb, .int .i64 sf] 29)).cell? ⟨wb.heap.size, 2, none⟩ = some (.int .i64 bf) := y2
        have HG := Lib.hid HZd.out.st.gr
        have hO : (decide (o < (qa : Int)) = true ∧ (⟨sn, sb, sf⟩ : Val) = ⟨rn, rb, rf⟩) ∨ (decide (o < (qa : Int)) = false ∧ decide ((qa : Int) + n ≤ o) = true ∧ (⟨sn, sb, sf⟩ : Val) = ⟨rn, rb, rf⟩) ∨ (decide (o < (qa : Int)) = false ∧ decide ((qa : Int) + n ≤ o) = false) := by
          by_cases h1 : o < (qa : Int)
          · exact .inl ⟨decide_eq_true h1, HRI.out (.inl h1)⟩
          · by_cases h2 : (qa : Int) + n ≤ o
            · exact .inr (.inl ⟨decide_eq_false h1, decide_eq_true h2, HRI.out (.inr h2)⟩)
            · exact .inr (.inr ⟨decide_eq_false h1, decide_eq_false h2⟩)
        have hcmp := fun W => neqValB W rn rb rf rn rb rf
        rw [decide_eq_true rfl] at hcmp
        have hcm2 := fun W => eqValB W vn vb vf vn vb vf
        rw [decide_eq_true rfl] at hcm2
        have hV := back_cases HW.out HQ.out hn HBV.out
        clear HBV HQ HW HR HSX HSE HRI HZd HUd hn hqx hqx2
        rcases hO with ⟨o1, hO⟩ | ⟨o1, o2, hO⟩ | ⟨o1, o2⟩
        all_goals
          try (simp only [Val.mk.injEq] at hO; obtain ⟨rfl, rfl, rfl⟩ := hO)
          rcases hV with ⟨hv, v1, hB⟩ | ⟨v1, v2, hB⟩ | ⟨v1, rfl, v3, hB⟩ | ⟨v1, rfl, v3, hB⟩
          all_goals
            simp only [Val.mk.injEq] at hB
            obtain ⟨rfl, rfl, rfl⟩ := hB
            try simp only [Int.natCast_one] at o2
            try replace o2 : decide ((qa : Int) + 4 ≤ o) = true := o2
            try replace o2 : decide ((qa : Int) + 4 ≤ o) = false := o2
            go_wp2_with fail
            go_ret
            exact ⟨rfl, HG.out⟩
      · have e0 : (se != 0) = true := by simpa using hse
        clear hse
        go_wp2_with fail
        go_ret
        exact ⟨rfl, HZ.out.st.gr⟩
  · have hw : welB ⟨vn, vb, vf⟩ = false := by simpa using hw
    rw [hw]
    clear hw
    go_wp2_with fail
    go_ret
    exact ⟨rfl, HS4.out.gr⟩

theorem back_at (x : Int) (h0 : 0 ≤ x) (h1 : x < 256) (q wd : Int) (v : Val) (hq : -9223372036854775808 ≤ v.n ∧ v.n ≤ 9223372036854775807) (o : Int) (w : World) :
    Calls Try.prog 4 #[.int .u8 x, .int .i64 q, .int .i64 wd, valV v, .int .i64 o] w fun e w' => e = .returned (.bool true) ∧ w.grownBy w' none := by
  obtain ⟨n, rfl⟩ : ∃ n : Nat, x = n := ⟨x.toNat, by omega⟩
  exact back_walk n (by omega) q wd v o hq w

end Go.Proofs.Ytblhnjoophhliaa
