/- scc: a graph made of edges. -/
import Derived.Test.YtneehdjaaofjaaaE2
import Derived.Test.YtneehdjaaofjaaaWe
import Derived.Test.YtneehdjaaofjaaaW1
import Derived.Deep.DeepCutAuto
import Derived.Deep.RegionLaw
namespace Go.Proofs.Ytneehdjaaofjaaa
open Go.RowKit
theorem box_cellsE {W : World} {b : Nat} {e : Edg} {t : TypeId} {fz : Nat × Nat} (h : W.heap[b]? = some (.cells (edC e) t fz)) : W.cell? ⟨b, 0, none⟩ = some (.int .i64 e.fr) ∧ W.cell? ⟨b, 2, none⟩ = some (.int .i64 e.to) := by
  constructor
  · rw [cell_of_row _ _ _ _ _ _ h]; rfl
  · rw [cell_of_row _ _ _ _ _ _ h]; rfl
set_option maxRecDepth 100000 in
set_option maxHeartbeats 4000000 in
theorem has_any (A : Option Addr) (N c : Nat) (i : Int) (w : World) :
    Calls Try.prog 28 #[.slice A N c, .int .i64 i] w fun e w' => e = .returned (.bool (decide (0 ≤ i ∧ i < (N : Int)))) ∧ w = w' := by
  by_cases h0 : 0 ≤ i
  · by_cases h1 : i < (N : Int)
    · rw [decide_eq_true (show 0 ≤ i ∧ i < (N : Int) from ⟨h0, h1⟩)]
      go_enter Try.func28, Try.ntmps28
      go_wp2_with fail
      go_ret
      exact ⟨rfl, rfl⟩
    · rw [decide_eq_false (show ¬ (0 ≤ i ∧ i < (N : Int)) from fun h => h1 h.2)]
      go_enter Try.func28, Try.ntmps28
      go_wp2_with fail
      go_ret
      exact ⟨rfl, rfl⟩
  · rw [decide_eq_false (show ¬ (0 ≤ i ∧ i < (N : Int)) from fun h => h0 h.1)]
    go_enter Try.func28, Try.ntmps28
    go_wp2_with fail
    go_ret
    exact ⟨rfl, rfl⟩
theorem step_app_one {w : World} {ops : Array Oper} {o : Oper} {a : Act} {K : Act → World → Prop} {Q : Exit → Act → World → Prop} {E' : Prop} (hgd : o.guard = none) (s x : Operand)
    (ho : o.op = .call { callee := .builtin .append, args := #[s, x], argTypes := #[27, 27] })
    (base : Nat) (v : Value) (L : List Int) (hs : a.eval s = v) (hown : OwN base w v L) (b : Nat) (y : Int) (fz : Nat × Nat)
    (hx : a.eval x = .slice (some ⟨b, 0, none⟩) 1 1) (hb : w.heap[b]? = some (.cells #[.int .i64 y] 3 fz)) (hn : L.length ≤ 1000000000000) (hbase : base ≤ w.heap.size)
    (h : ∀ v' w', Hid (OwN base w' v' (L ++ [y])) → Hid (w.grownBy w' v.ownBlock) → Hid (∀ g, v'.ownBlock = some g → v.ownBlock = some g ∨ w.heap.size ≤ g) → K (a.put o.dst v') w') : if Region.wanted o (yielded ops a.tmps) = true then Oper.wp Try.prog o a w K Q else E' := by
  have hw : Region.wanted o (yielded ops a.tmps) = true := by simp [Region.wanted, hgd]
  rw [if_pos hw]
  obtain ⟨v', w', hr, h2, h3, h4⟩ := run_app_one (o := o) base v L hown b y fz hb hn hbase
  unfold Oper.wp execOp
  simp only [ho, resolve, invoke, builtin, Sem.run_bind, Sem.run_pure, Result.andThen_ok, List.map_toArray, List.map_cons, List.map_nil, hs, hx, hr]
  exact h v' w' h2 h3 h4
/-- What newGraph has made of the first q edges. -/
def NgRel (N : Nat) (E : List Edg) (w : World) (o : Nat) (i : Value) (wr : World) : Prop :=
  ∃ (q : Nat) (vs : List Value) (G : List (List Int)), q ≤ E.length ∧ i = .int .i64 q ∧ Hid (GrO o wr o vs G) ∧ Hid (GrK (fun a b => (a, b) ∈ prs N (E.take q)) N G) ∧ Hid (Short q G) ∧ Hid (w.grownBy wr none)
theorem prs_next {N : Nat} {E : List Edg} {q : Nat} {e : Edg} (he : E[q]? = some e) : prs N (E.take (q + 1)) = prs N (E.take q) ++ if edgeIn N e then [(e.fr.toNat, e.to.toNat)] else [] := by
  rw [List.take_add_one, he]
  unfold prs
  rw [List.filter_append, List.map_append]
  by_cases h : edgeIn N e = true
  · simp [h]
  · simp [h]
set_option maxRecDepth 100000 in
set_option maxHeartbeats 8000000 in
theorem newGraph_any (n : Int) (A : Option Addr) (c0 : Nat) (E : List Edg) (w : World) (hE : EdsAt w A E) (hEl : E.length ≤ 1000) :
    Calls Try.prog 18 #[.int .i64 n, .slice A E.length c0] w fun e w' => ∃ (o : Nat) (G : List (List Int)), e = .returned (.slice (some ⟨o, 0, none⟩) (szE n) (szE n)) ∧ w.heap.size ≤ o ∧ GrAt w' (some ⟨o, 0, none⟩) G none ∧ GrK (fun a b => (a, b) ∈ prs (szE n) E) (szE n) G ∧ Short 1000 G ∧ w.grownBy w' none := by
  have HE := Lib.hid hE
  obtain ⟨N, hNN⟩ : ∃ N, N = szE n := ⟨_, rfl⟩
  have hN : N ≤ 20000 := by rw [hNN]; exact szE_le n
  have hmm : min (max n 0) 20000 = (N : Int) := by rw [hNN]; unfold szE; split <;> (try split) <;> omega
  rw [← hNN]
  clear hE hNN
  obtain ⟨i0, hi, hz0, hz1, hz2⟩ := info_parts infoSlI
  go_enter Try.func18, Try.ntmps18
  go_upto_region 1 with fail
  go_cut [5] (fun x wx => x = .slice (some ⟨w.heap.size, 0, none⟩) N N ∧ Hid (GrO w.heap.size wx w.heap.size (List.replicate N (.slice none 0 0)) (List.replicate N [])) ∧ Hid (w.grownBy wx none))
  case first =>
    have hcs : (n < 0 ∧ N = 0) ∨ ((0 ≤ n ∧ n ≤ 20000) ∧ n = (N : Int)) ∨ (20000 < n ∧ N = 20000) := by omega
    clear hmm
    rcases hcs with ⟨h1, rfl⟩ | ⟨⟨h1, h2⟩, rfl⟩ | ⟨h1, rfl⟩
    · go_wp2_with (at_make; go_must (refine wpList_make_full _ rfl (.tmp 10) (.tmp 10) 38 rfl w.heap.size 27 i0 _ 1 Try.underlying38 hi hz0 hz1 .i64 .i64 (0 : Int) (0 : Int) 0 rfl rfl rfl rfl (by rw [hz2]; omega) (by unfold maxLen; omega) (Nat.le_refl _) ?_; intro w1 ho1 hg1; have HM1 := Lib.hid (GrO.made_ ho1); have HG1 := Lib.hid hg1; clear ho1 hg1))
      go_meet
      exact ⟨rfl, HM1, HG1⟩
    · go_wp2_with (at_make; go_must (refine wpList_make_full _ rfl (.tmp 10) (.tmp 10) 38 rfl w.heap.size 27 i0 _ 1 Try.underlying38 hi hz0 hz1 .i64 .i64 (N : Int) (N : Int) N rfl rfl rfl rfl (by rw [hz2]; omega) (by unfold maxLen; omega) (Nat.le_refl _) ?_; intro w1 ho1 hg1; have HM1 := Lib.hid (GrO.made_ ho1); have HG1 := Lib.hid hg1; clear ho1 hg1))
      go_meet
      exact ⟨rfl, HM1, HG1⟩
    · go_wp2_with (at_make; go_must (refine wpList_make_full _ rfl (.tmp 10) (.tmp 10) 38 rfl w.heap.size 27 i0 _ 1 Try.underlying38 hi hz0 hz1 .i64 .i64 (20000 : Int) (20000 : Int) 20000 rfl rfl rfl rfl (by rw [hz2]; omega) (by unfold maxLen; omega) (Nat.le_refl _) ?_; intro w1 ho1 hg1; have HM1 := Lib.hid (GrO.made_ ho1); have HG1 := Lib.hid hg1; clear ho1 hg1))
      go_meet
      exact ⟨rfl, HM1, HG1⟩
  case rest =>
  obtain ⟨rfl, HM, HG⟩ := hcut
  obtain ⟨w1, hw1⟩ : ∃ x, x = wc := ⟨_, rfl⟩
  subst hw1
  clear hmm hi hz0 hz1 hz2
  generalize hbb : w.heap.size = b at *
  go_wp2_with fail
  go_loopw [14] (fun i wr => NgRel N E w b i wr) (fun i _ => E.length - (intOf i).toNat)
  case atStart => exact ⟨0, _, _, Nat.zero_le _, rfl, HM, GrK.first (fun a b h => by simp [prs] at h) N, Short.first 0 N, HG⟩
  case round =>
    obtain ⟨q, vs, G, hq, rfl, HO, HK, HS, HW⟩ := hrel
    by_cases hlt : q < E.length
    · have HX := Lib.hid (show E[q]? = some E[q] from List.getElem?_eq_getElem hlt)
      obtain ⟨ad, rfl⟩ := HE.out.some_ hlt
      generalize E[q] = e at HX
      obtain ⟨hc0, hc1, hc2⟩ := eds_cells (HE.out.keep HW.out) HX.out
      obtain ⟨fr, pc, tt⟩ := e
      dsimp only at hc0 hc1 hc2
      have HPN := Lib.hid (prs_next (N := N) HX.out)
      have hsz := HW.out.size
      have HOB := Lib.hid (lt_of_heap HO.out.out)
      by_cases hin : (0 ≤ fr ∧ fr < (N : Int)) ∧ 0 ≤ tt ∧ tt < (N : Int)
      · obtain ⟨⟨h1, h2⟩, h3, h4⟩ := hin
        obtain ⟨a, rfl⟩ : ∃ a : Nat, fr = a := ⟨fr.toNat, by omega⟩
        obtain ⟨t, rfl⟩ : ∃ a : Nat, tt = a := ⟨tt.toNat, by omega⟩
        have haN : a < N := by omega
        have htN : t < N := by omega
        have HFA := Lib.hid (decide_eq_true (show 0 ≤ (a : Int) ∧ (a : Int) < (N : Int) from ⟨h1, h2⟩))
        have HFT := Lib.hid (decide_eq_true (show 0 ≤ (t : Int) ∧ (t : Int) < (N : Int) from ⟨h3, h4⟩))
        rw [if_pos (by simp [edgeIn]; omega)] at HPN
        simp only [Int.toNat_natCast] at HPN
        have hrow := List.getElem?_eq_getElem (show a < G.length by rw [HK.out.len]; exact haN)
        generalize G[a]'_ = row at hrow
        obtain ⟨v, hv, hov⟩ := HO.out.row a row hrow
        obtain ⟨A3, c3, rfl⟩ := hov.slice
        have HROW := Lib.hid hrow
        have HV := Lib.hid hv
        have HOV := Lib.hid hov
        have hrl : row.length ≤ q := HS.out a row hrow
        clear hrow hv hov
        go_wp2_with fail
        refine (has_any _ N N a _).mono ?_
        rintro e w2 ⟨rfl, rfl⟩
        rw [HFA.out]
        go_wp2_with fail
        refine (has_any _ N N t _).mono ?_
        rintro e w2 ⟨rfl, rfl⟩
        rw [HFT.out]
        go_wp2_with fail
        obtain ⟨W2, hW2⟩ : ∃ x, x = wr.alloc (.cells #[.int .i64 (a : Int), .int .i64 pc, .int .i64 (t : Int)] 33) := ⟨_, rfl⟩
        rw [← hW2]
        have hbx : W2.heap[wr.heap.size]? = some (.cells (edC ⟨(a : Int), pc, (t : Int)⟩) 33 (0, 0)) := by rw [hW2]; exact heap_alloc_new wr (.cells (edC ⟨(a : Int), pc, (t : Int)⟩) 33)
        have hg2 : wr.grownBy W2 none := by rw [hW2]; exact gr_alloc (grownBy_refl _ _) _
        clear hW2
        generalize wr.heap.size = p at *
        have HBX := Lib.hid hbx
        have HO2 := Lib.hid (HO.out.gr hg2)
        have HOV2 := Lib.hid (HOV.out.gr hg2)
        have HW2 := Lib.hid (grownBy_trans HW.out hg2)
        have hbl : b ≤ W2.heap.size := by have := HW2.out.size; omega
        have HF := Lib.hid (HO2.out.fr a)
        have HKP := Lib.hid (fun (W : World) (hW : W2.grownBy W none) => (show (W.cell? ⟨p, 0, none⟩ = some (.int .i64 a) ∧ W.cell? ⟨p, 2, none⟩ = some (.int .i64 t) ∧ W.cell? ⟨b, a, none⟩ = some (.slice A3 row.length c3) ∧ W.frozen? ⟨b, a, none⟩ = false) from
          ⟨(box_cellsE (e := ⟨a, pc, t⟩) ((hW.block _ (lt_of_heap HBX.out) (by simp)).trans HBX.out)).1, (box_cellsE (e := ⟨a, pc, t⟩) ((hW.block _ (lt_of_heap HBX.out) (by simp)).trans HBX.out)).2, (HO2.out.gr hW).cell HV.out, (HO2.out.gr hW).fr a⟩))
        have HCC := Lib.hid (fun (X Y : World) (hX : W2.grownBy X none) (hY : X.grownBy Y (Value.slice A3 row.length c3).ownBlock) => (show (Y.cell? ⟨p, 0, none⟩ = some (.int .i64 a) ∧ Y.cell? ⟨p, 2, none⟩ = some (.int .i64 t) ∧ Y.cell? ⟨b, a, none⟩ = some (.slice A3 row.length c3) ∧ Y.frozen? ⟨b, a, none⟩ = false) from by
          obtain ⟨k1, k2, k3, k4⟩ := HKP.out X hX
          have hxb := (hX.block _ (lt_of_heap HBX.out) (by simp)).trans HBX.out
          have hxo := (HO2.out.gr hX).out
          have e1 := hY.block p (lt_of_heap hxb) ((HOV2.out.gr hX).ne hxb (by decide))
          have e2 := hY.block b (lt_of_heap hxo) ((HOV2.out.gr hX).ne hxo (by decide))
          exact ⟨(World.cell?_of_block e1).trans k1, (World.cell?_of_block e1).trans k2, (World.cell?_of_block e2).trans k3, (World.frozen?_of_block e2).trans k4⟩))
        clear hbx hg2 hc0 hc1 hc2
        obtain ⟨k1, k2, k3, k4⟩ := HKP.out W2 (grownBy_refl _ _)
        obtain ⟨n1, n2, n3, n4⟩ := HKP.out _ (gr_alloc (grownBy_refl W2 none) (.cells #[.int .i64 (t : Int)] 3))
        have HRL := Lib.hid hrl
        clear hrl
        go_region_law (first
          | (refine step_app_one rfl (.tmp 35) (.tmp 38) rfl b (.slice A3 row.length c3) row (by simp [Act.eval]) (HOV2.out.gr (gr_alloc (grownBy_refl W2 none) _).gr_drew) W2.heap.size (t : Int) (0, 0) (by simp [Act.eval]) (heap_alloc_new W2 (.cells #[.int .i64 (t : Int)] 3)) (by have := HRL.out; omega) (by simp; omega) ?_; intro v4 w4 ho4 hg4 hb4; obtain ⟨A4, c4, rfl⟩ := OwN.slice ho4.out; obtain ⟨m1, m2, m3, m4⟩ := HCC.out _ w4 (gr_alloc (grownBy_refl W2 none) _).gr_drew hg4.out))
        all_goals
          go_wp2_with fail
          go_roundw
          case rel => exact ⟨q + 1, vs.set a _, G.set a (row ++ [(t : Int)]), by omega, by go_num, by
            have h := (HO2.out.gr (gr_alloc (grownBy_refl W2 none) (.cells #[.int .i64 (t : Int)] 3)).gr_drew).put HROW.out HV.out ho4.out hg4.out (fun k hk => hb4.out k hk)
            refine Lib.hid ?_
            simpa using h, HK.out.put HROW.out htN (fun x y => by rw [HPN.out]; simp), HS.out.put HROW.out (Nat.le_refl _), gr_own (gr_own (gr_alloc HW2.out _).gr_drew hg4.out (fun k hk => by have := own_is HOV2.out k hk; omega)) (gr_setB w4 ⟨b, a, none⟩ _) (fun k hk => by injection hk with hk; have : b = k := hk; omega)⟩
          case measure => simp [intOf]; omega
      · have HNI := Lib.hid (show edgeIn N ⟨fr, pc, tt⟩ = false from decide_eq_false (fun h => hin ⟨⟨h.1, h.2.1⟩, h.2.2.1, h.2.2.2⟩))
        rw [HNI.out] at HPN
        simp only [Bool.false_eq_true, if_false, List.append_nil] at HPN
        by_cases h1 : 0 ≤ fr ∧ fr < (N : Int)
        · have HFA := Lib.hid (decide_eq_true h1)
          have HFT := Lib.hid (decide_eq_false (show ¬ (0 ≤ tt ∧ tt < (N : Int)) from fun h => hin ⟨h1, h⟩))
          clear h1 hin
          go_wp2_with fail
          refine (has_any _ N N fr _).mono ?_
          rintro e w2 ⟨rfl, rfl⟩
          rw [HFA.out]
          go_wp2_with fail
          refine (has_any _ N N tt _).mono ?_
          rintro e w2 ⟨rfl, rfl⟩
          rw [HFT.out]
          go_wp2_with fail
          go_roundw
          case rel => exact ⟨q + 1, vs, G, by omega, by go_num, HO.out.gr (gr_alloc (grownBy_refl _ _) _), by rw [HPN.out]; exact HK.out, HS.out.mono (Nat.le_succ _), gr_alloc HW.out _⟩
          case measure => simp [intOf]; omega
        · have HFA := Lib.hid (decide_eq_false h1)
          clear h1 hin
          go_wp2_with fail
          refine (has_any _ N N fr _).mono ?_
          rintro e w2 ⟨rfl, rfl⟩
          rw [HFA.out]
          go_wp2_with fail
          go_roundw
          case rel => exact ⟨q + 1, vs, G, by omega, by go_num, HO.out.gr (gr_alloc (grownBy_refl _ _) _), by rw [HPN.out]; exact HK.out, HS.out.mono (Nat.le_succ _), gr_alloc HW.out _⟩
          case measure => simp [intOf]; omega
    · obtain rfl : q = E.length := by omega
      rw [List.take_length] at HK
      go_wp2_with fail
      go_ret
      exact ⟨b, G, rfl, by omega, HO.out.at_, HK.out, HS.out.mono hEl, HW.out⟩

end Go.Proofs.Ytneehdjaaofjaaa
