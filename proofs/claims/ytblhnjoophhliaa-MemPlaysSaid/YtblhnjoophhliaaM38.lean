/- The document's memory: Alloc. -/
import Derived.Test.YtblhnjoophhliaaM35
import Derived.Test.YtblhnjoophhliaaMP1
import Derived.Deep.RegionLaw
import Derived.Deep.RegionHeld3
namespace Go.Proofs.Ytblhnjoophhliaa
open Go.RowKit
set_option maxRecDepth 100000 in
set_option maxHeartbeats 4000000 in
theorem rAlloc_no {ad : Option Addr} {len : Nat} (cap : Nat) (site size : Int) (z : Bool) (w : World) (hs : allB size len = false) :
    Calls Try.prog 14 #[.slice ad len cap, .int .i64 site, .int .i64 size, .bool z] w fun e w' => e = .returned (.tuple #[.slice ad len cap, .int .i64 0, .int .i64 5]) ∧ w = w' := by
  have hs := of_decide_eq_false (show decide _ = false from hs)
  by_cases a0 : size < 0
  · clear hs
    go_enter Try.func14, Try.ntmps14
    go_wp2_with fail
    go_ret3
    exact ⟨rfl, rfl⟩
  · by_cases a1 : 4096 < size
    · clear hs
      go_enter Try.func14, Try.ntmps14
      go_wp2_with fail
      go_ret3
      exact ⟨rfl, rfl⟩
    · have a2 : 2000 ≤ len := by omega
      clear hs
      go_enter Try.func14, Try.ntmps14
      go_wp2_with fail
      go_ret3
      exact ⟨rfl, rfl⟩
/-- Alloc's state: the new block's box, and its bytes. -/
structure AlR (w W : World) (site : Int) (v : Value) (j : Nat) (M : List Byt) : Prop where
  b0 : W.heap[w.heap.size]? = some (.cells #[.int .i64 site, v, .bool false] 59 (0, 0))
  row : W.ownsRow (w.heap.size + 1) 67 5 v j (flatC bytC M)
  gr : w.grownBy W none
theorem AlR.grown {w W W' : World} {site : Int} {v : Value} {j : Nat} {M : List Byt} (h : AlR w W site v j M) (g : W.grownBy W' none) : AlR w W' site v j M :=
  ⟨(g.block _ (lt_of_heap h.b0) (by simp)).trans h.b0, own_gr h.row g, grownBy_trans h.gr g⟩
theorem AlR.box {w W : World} {site : Int} {v : Value} {j : Nat} {M : List Byt} (h : AlR w W site v j M) : W.cell? ⟨w.heap.size, 0, none⟩ = some (.int .i64 site) ∧ W.cell? ⟨w.heap.size, 1, none⟩ = some v ∧ W.cell? ⟨w.heap.size, 2, none⟩ = some (.bool false) ∧ W.frozen? ⟨w.heap.size, 1, none⟩ = false ∧ w.heap.size < W.heap.size := by
  have e := h.b0
  refine ⟨?_, ?_, ?_, ?_, lt_of_heap e⟩ <;> simp [World.cell?, World.frozen?, e]
theorem AlR.new (w : World) (site : Int) : AlR w (w.alloc (.cells #[.int .i64 site, .slice none 0 0, .bool false] 59)) site (.slice none 0 0) 0 [] :=
  ⟨heap_alloc_new w _, ⟨rfl, .inl ⟨rfl, rfl⟩⟩, gr_alloc (grownBy_refl w none) _⟩
/-- A byte more. -/
theorem AlR.next {w W W1 w4 : World} {site : Int} {v v' : Value} {j : Nat} {M : List Byt} {b : Byt} (h : AlR w W site v j M) (g : W.grownBy W1 none) (hown : w4.ownsRow (w.heap.size + 1) 67 5 v' (j + 1) (flatC bytC M ++ (bytC b).toList)) (hgr : W1.grownBy w4 v.ownBlock) :
    w4.cell? ⟨w.heap.size, 1, none⟩ = some v ∧ w4.frozen? ⟨w.heap.size, 1, none⟩ = false ∧ AlR w (w4.setCell ⟨w.heap.size, 1, none⟩ v') site v' (j + 1) (M ++ [b]) := by
  have h1 := h.grown g
  have hne : ∀ q, v.ownBlock = some q → w.heap.size + 1 ≤ q := fun q hq => own_ge h.row hq
  have h4 : w4.heap[w.heap.size]? = some (.cells #[.int .i64 site, v, .bool false] 59 (0, 0)) := (hgr.block _ (lt_of_heap h1.b0) (fun e => by have := hne _ e.symm; omega)).trans h1.b0
  have hg4 : w.grownBy w4 none := gr_far h1.gr hgr (Nat.le_succ _) hne
  refine ⟨by simp [World.cell?, h4], by simp [World.frozen?, h4], ?_, ?_, hg4.gr_set (p := ⟨w.heap.size, 1, none⟩) (Nat.le_refl _) _⟩
  · simp [World.setCell, Array.getElem?_modify, h4]
  · rw [flat_app]
    have e : flatC bytC [b] = (bytC b).toList := by simp [flatC]
    rw [e]
    refine ⟨hown.1, hown.2.imp id ?_⟩
    rintro ⟨r, cap, cur, e0, hr, hh, q⟩
    exact ⟨r, cap, cur, e0, hr, (Below.heap_setCell _ _ _ _ (by show r ≠ w.heap.size; omega)).trans hh, q⟩
/-- The bytes of a new block. -/
def newL (z : Bool) (j : Nat) : List Byt := if z = true then nums 0 j else List.replicate j byt0
theorem newL_succ (z : Bool) (j : Nat) : newL z (j + 1) = newL z j ++ [if z = true then ⟨1, 0, val0⟩ else byt0] := by
  unfold newL
  cases z
  · exact List.replicate_succ'
  · exact (nums_succ 0 j).symm
theorem newL_len (z : Bool) (j : Nat) : (newL z j).length = j := by unfold newL; cases z <;> simp [nums]
theorem run_append_nilcap {P : Program} {w : World} (base : Nat) (t ty e : TypeId) (i : TypeInfo) (size c : Nat) (ht : P.underlying t = some (.slice e)) (hi : P.info? e = some i)
    (v : Value) (n : Nat) (xs : List Value) (hown : w.ownsRow base e size v n xs) :
    (Builtin.append_ #[t, t] ty #[v, .slice none 0 c]).run P w = .ok v w := by
  rcases hown.2 with ⟨rfl, rfl⟩ | ⟨g, cap, cur, rfl, _, _, hnc, _⟩
  · simp [Builtin.append_, run_underlying ht, sizeOf, typeInfo, hi, Builtin.lenOf, Builtin.firstCells]
  · simp [Builtin.append_, run_underlying ht, sizeOf, typeInfo, hi, Builtin.lenOf, Builtin.firstCells, hnc, storeCells]
theorem step_append_nilcap {P : Program} {w : World} {ops : Array Oper} {o : Oper} {a : Act} {K : Act → World → Prop} {Q : Exit → Act → World → Prop} {E : Prop} (hgd : o.guard = none) (s x : Operand) (t : TypeId)
    (ho : o.op = .call { callee := .builtin .append, args := #[s, x], argTypes := #[t, t] })
    (base : Nat) (e : TypeId) (i : TypeInfo) (size m c : Nat) (hm : m = 0) (ht : P.underlying t = some (.slice e)) (hi : P.info? e = some i)
    (v : Value) (n : Nat) (xs : List Value) (hs : a.eval s = v) (hown : w.ownsRow base e size v n xs) (hx : a.eval x = .slice none m c)
    (h : ∀ v' w', w'.ownsRow base e size v' n xs → w.grownBy w' v.ownBlock → K (a.put o.dst v') w') :
    if Region.wanted o (yielded ops a.tmps) = true then Oper.wp P o a w K Q else E := by
  subst hm
  have hw : Region.wanted o (yielded ops a.tmps) = true := by simp [Region.wanted, hgd]
  rw [if_pos hw]
  have hrun := run_append_nilcap (P := P) (w := w) base t o.type e i size c ht hi v n xs hown
  unfold Oper.wp
  simp [execOp, ho, resolve, invoke, builtin, hs, hx, hrun, Result.andThen]
  exact h v w hown (grownBy_refl _ _)
theorem three_cells' (w : World) (g : Nat) (hg : g = w.heap.size) (x : RB) : ∀ (j : Nat) (u : Value), (rbC x).toList[j]? = some u → (w.alloc (.cells #[.int .i64 x.site, .slice x.ad x.bytes.length x.cap, .bool x.ended] 59)).cell? ((⟨g, 0, none⟩ : Addr).add j) = some u := by
  subst hg
  intro j u hu
  have e := heap_alloc_new w (.cells #[.int .i64 x.site, .slice x.ad x.bytes.length x.cap, .bool x.ended] 59)
  rw [add_zero0]
  simp only [World.cell?, e]
  rcases j with _ | _ | _ | j
  all_goals first | (simp [rbC] at hu; done) | simpa [rbC] using hu
theorem three_cellsA (w : World) (g : Nat) (hg : g = w.heap.size) (site : Int) (la : Option Addr) (lc j : Nat) (z : Bool) : ∀ (i : Nat) (u : Value), (rbC ⟨site, newL z j, false, la, lc⟩).toList[i]? = some u → (w.alloc (.cells #[.int .i64 site, .slice la j lc, .bool false] 59)).cell? ((⟨g, 0, none⟩ : Addr).add i) = some u := by
  have h := three_cells' w g hg ⟨site, newL z j, false, la, lc⟩
  dsimp only at h
  rw [newL_len] at h
  exact h
theorem own_q {g n c q : Nat} (h : (Value.slice (some ⟨g, 0, none⟩) n c).ownBlock = some q) : q = g := by injection h with h; exact h.symm
theorem heapB (wr : World) (A X : Obj) : ((wr.alloc A).alloc X).heap[wr.heap.size]? = some A := by
  rw [heap_alloc_old _ _ (by simp)]
  exact heap_alloc_new wr A
theorem heapC (wr : World) (A X : Obj) : ((wr.alloc X).alloc A).heap[wr.heap.size + 1]? = some A := by
  have := heap_alloc_new (wr.alloc X) A
  simpa only [World.size_alloc] using this
theorem own0 {W : World} {base g : Nat} (h : W.heap[g]? = some (.cells #[] 59)) (hb : base ≤ g) : W.ownsRow base 59 3 (.slice (some ⟨g, 0, none⟩) 0 0) 0 [] :=
  ⟨rfl, .inr ⟨g, 0, _, rfl, hb, h, Nat.le_refl _, by unfold maxLen; omega, rfl, rfl⟩⟩
theorem cells_thr {W w4 : World} {q : Nat} {L : List Value} {r : Option Nat} (h : ∀ (i : Nat) (u : Value), L[i]? = some u → W.cell? ((⟨q, 0, none⟩ : Addr).add i) = some u) (g : W.grownBy w4 r) (hq : q < W.heap.size) (hr : some q ≠ r) : ∀ (i : Nat) (u : Value), L[i]? = some u → w4.cell? ((⟨q, 0, none⟩ : Addr).add i) = some u := fun i u hu => by
  have e := h i u hu
  rw [add_zero0] at e ⊢
  exact (World.cell?_of_block (w := W) (w' := w4) (a := ⟨q, i, none⟩) (g.block q hq hr)).trans e
theorem cells_old {w : World} {q : Nat} {L : List Value} (o : Obj) (h : ∀ (i : Nat) (u : Value), L[i]? = some u → w.cell? ((⟨q, 0, none⟩ : Addr).add i) = some u) (hq : q < w.heap.size) : ∀ (i : Nat) (u : Value), L[i]? = some u → (w.alloc o).cell? ((⟨q, 0, none⟩ : Addr).add i) = some u :=
  cells_thr (r := none) h (gr_alloc (grownBy_refl w none) o) hq (by simp)
/-- What Alloc leaves. -/
theorem alloc_ref {S : Nat → Prop} {w wr w5 : World} {ad la : Option Addr} {rs : List RB} {site : Int} {lc n : Nat} {z : Bool} {v : Value} (h : RefAt S w ad rs) (hA : AlR w wr site (.slice la n lc) n (newL z n)) (g : wr.grownBy w5 none)
    (hO : w5.ownsRow wr.heap.size 59 3 v (rs.length + 1) (flatC rbC rs ++ (rbC ⟨site, newL z n, false, la, lc⟩).toList)) (hl : rs.length < 2000) (hn : n ≤ 4096) : RefP S w w5 v (rsB rs ++ [⟨site, true, newL z n⟩]) := by
  have gg := grownBy_trans hA.gr g
  have hA5 := hA.grown g
  obtain ⟨r, c, rfl, hr1, hr2⟩ := own_some hO (by omega)
  have hlen : (rs ++ [(⟨site, newL z n, false, la, lc⟩ : RB)]).length = rs.length + 1 := by simp
  have hnl : (newL z n).length = n := newL_len z n
  have hrow := hA5.row
  obtain ⟨la2, lc2, e2, hc2, hgs⟩ := own_form hrow
  simp only [Value.slice.injEq] at e2
  obtain ⟨rfl, _, rfl⟩ := e2
  have hby : Byts (newL z n) := fun b hb => by
    unfold newL at hb
    split at hb
    · obtain rfl := List.eq_of_mem_replicate hb
      exact ⟨Int.le_refl _, by show (0 : Int) < 256; omega⟩
    · obtain rfl := List.eq_of_mem_replicate hb
      exact ⟨Int.le_refl _, by show (0 : Int) < 256; omega⟩
  have hsz := hA.gr.size
  refine ⟨rs ++ [⟨site, newL z n, false, la, lc⟩], some ⟨r, 0, none⟩, c, by rw [hlen], ?_, RefAt.of_own (base := wr.heap.size) (c := c) ?_ (.inr ⟨by omega, hr2, own_ty hO rfl (.inl rfl)⟩) (fun x hx => ?_) (fun k hk => ?_) (by rw [hlen]; omega)⟩
  · unfold rsB
    rw [List.map_append]
    rfl
  · rw [hlen, flat_app]
    have e : flatC rbC [(⟨site, newL z n, false, la, lc⟩ : RB)] = (rbC ⟨site, newL z n, false, la, lc⟩).toList := by simp [flatC]
    rw [e]
    exact hO
  · rcases List.mem_append.1 hx with hx | hx
    · obtain ⟨q1, q2, q3⟩ := h.each x hx
      exact ⟨q1.gr gg, fun i hi => .inl (q2 i hi), q3⟩
    · obtain rfl := List.mem_singleton.1 hx
      refine ⟨own_rd (B := w.heap.size + 1) (c := lc) (by dsimp only; rw [hnl]; exact hrow), fun g hg => .inr ⟨by have := (hgs g hg).1; omega, (hgs g hg).2, own_ty hrow hg (.inr rfl)⟩, by dsimp only; rw [hnl]; exact hn, hby, hc2.1, by dsimp only; rw [hnl]; exact hc2.2⟩
  · rcases hk with hk | hk
    · exact Nat.lt_of_lt_of_le (h.lt k hk) gg.size
    · exact hk.2.1
set_option maxRecDepth 100000 in
set_option maxHeartbeats 4000000 in
theorem rAlloc_yes {S : Nat → Prop} {ad : Option Addr} {rs : List RB} (cap : Nat) (site : Int) (n : Nat) (z : Bool) (w : World) (h : RefAt S w ad rs) (hn : n ≤ 4096) (hl : rs.length < 2000) :
    Calls Try.prog 14 #[.slice ad rs.length cap, .int .i64 site, .int .i64 n, .bool z] w fun e w' => ∃ u, e = .returned (.tuple #[u, .int .i64 ((rs.length : Int) + 1), .int .i64 0]) ∧ RefP S w w' u (rsB rs ++ [⟨site, true, newL z n⟩]) ∧ w.grownBy w' none := by
  have HR := Lib.hid h
  clear h
  have a0 : decide ((n : Int) < 0) = false := decide_eq_false (by omega)
  have a1 : decide (4096 < (n : Int)) = false := decide_eq_false (by omega)
  have a2 : decide ((2000 : Int) ≤ (rs.length : Int)) = false := decide_eq_false (by omega)
  obtain ⟨i0, hi, hz0, hz1, hz2⟩ := info_parts infoByte
  have HA0 := Lib.hid (AlR.new w site)
  go_enter Try.func14, Try.ntmps14
  go_wp2_with fail
  go_loopw [12] (fun i W => ∃ (j : Nat) (la : Option Addr) (lc : Nat), j ≤ n ∧ i = .int .i64 j ∧ AlR w W site (.slice la j lc) j (newL z j)) (fun i _ => n - (intOf i).toNat)
  case atStart => exact ⟨0, none, 0, Nat.zero_le _, rfl, by have := HA0.out; cases z <;> exact this⟩
  case round =>
    obtain ⟨j, la, lc, hj, rfl, hA⟩ := hrel
    have HA := Lib.hid hA
    obtain ⟨y0, y1, y2, y3, hz⟩ := hA.box
    clear hA
    by_cases hlt : j < n
    · rcases z
      · go_wp2_with (at_builtin; go_must (refine wpList_append_own _ rfl (.tmp 37) (.tmp 39) 55 rfl (w.heap.size + 1) 67 i0 _ 5 40 Try.underlying55 hi hz0 hz1 hz2 rfl (by decide) _ j (flatC bytC (newL false j)) rfl (own_gr HA.out.row (by repeat (first | with_reducible exact grownBy_refl _ _ | with_reducible assumption | with_reducible refine World.grownBy.gr_drew ?_ | with_reducible refine World.grownBy.gr_set ?_ (by simp) _ | with_reducible refine gr_alloc ?_ _))) ⟨wr.heap.size + 1, 0, none⟩ 1 1 (bytC byt0).toList rfl rfl (five_at _ _ (by simp) byt0) (bytC_one _) (by unfold maxLen; omega) (by omega) (by simp; omega) ?_; intro v' w4 hown hgr _; obtain ⟨la2, lc2, rfl, _, _⟩ := own_form hown; obtain ⟨d1, z1, hA2⟩ := HA.out.next (b := byt0) (by repeat (first | with_reducible exact grownBy_refl _ _ | with_reducible assumption | with_reducible refine World.grownBy.gr_drew ?_ | with_reducible refine World.grownBy.gr_set ?_ (by simp) _ | with_reducible refine gr_alloc ?_ _)) hown hgr; have HA2 := Lib.hid hA2; clear hown hgr hA2))
        go_roundw
        case rel => exact ⟨j + 1, la2, lc2, by omega, by go_num, by rw [newL_succ]; exact HA2.out⟩
        case measure => simp [intOf]; omega
      · go_wp2_with (at_builtin; go_must (refine wpList_append_own _ rfl (.tmp 37) (.tmp 39) 55 rfl (w.heap.size + 1) 67 i0 _ 5 40 Try.underlying55 hi hz0 hz1 hz2 rfl (by decide) _ j (flatC bytC (newL true j)) rfl (own_gr HA.out.row (by repeat (first | with_reducible exact grownBy_refl _ _ | with_reducible assumption | with_reducible refine World.grownBy.gr_drew ?_ | with_reducible refine World.grownBy.gr_set ?_ (by simp) _ | with_reducible refine gr_alloc ?_ _))) ⟨wr.heap.size + 1, 0, none⟩ 1 1 (bytC ⟨1, 0, val0⟩).toList rfl rfl (five_at _ _ (by simp) ⟨1, 0, val0⟩) (bytC_one _) (by unfold maxLen; omega) (by omega) (by simp; omega) ?_; intro v' w4 hown hgr _; obtain ⟨la2, lc2, rfl, _, _⟩ := own_form hown; obtain ⟨d1, z1, hA2⟩ := HA.out.next (b := ⟨1, 0, val0⟩) (by repeat (first | with_reducible exact grownBy_refl _ _ | with_reducible assumption | with_reducible refine World.grownBy.gr_drew ?_ | with_reducible refine World.grownBy.gr_set ?_ (by simp) _ | with_reducible refine gr_alloc ?_ _)) hown hgr; have HA2 := Lib.hid hA2; clear hown hgr hA2))
        go_roundw
        case rel => exact ⟨j + 1, la2, lc2, by omega, by go_num, by rw [newL_succ]; exact HA2.out⟩
        case measure => simp [intOf]; omega
    · have e : j = n := by omega
      subst e
      clear hlt y0 y1 y2 y3
      obtain ⟨k0, hk, hy0, hy1, hy2⟩ := info_parts infoRBlk
      have HKP := Lib.hid (fun (W : World) (hW : wr.grownBy W none) => (show W.cell? ⟨w.heap.size, 0, none⟩ = some (.int .i64 site) ∧ W.cell? ⟨w.heap.size, 1, none⟩ = some (.slice la j lc) ∧ W.cell? ⟨w.heap.size, 2, none⟩ = some (.bool false) from
        ⟨(HA.out.grown hW).box.1, (HA.out.grown hW).box.2.1, (HA.out.grown hW).box.2.2.1⟩))
      have hs1 : IntKind.i64.wrap ((rs.length : Int) + 1) = (rs.length : Int) + 1 := by rw [IntKind.wrap_i64]; omega
      rcases ad with _ | a
      · have hr0 : rs = [] := by
          rcases HR.out.row with e | ⟨g, e, _⟩
          · exact e
          · cases e
        have HR0 := Lib.hid (show rs.length = 0 from by rw [hr0]; rfl)
        have HRE := Lib.hid (show flatC rbC rs = [] from by rw [hr0]; rfl)
        clear hr0
        go_wp2_with fail
        go_region_held3 (fun W => W.cell? ⟨w.heap.size, 0, none⟩ = some (.int .i64 site) ∧ W.cell? ⟨w.heap.size, 1, none⟩ = some (.slice la j lc) ∧ W.cell? ⟨w.heap.size, 2, none⟩ = some (.bool false)) (exact HKP.out _ (by repeat (first | with_reducible exact grownBy_refl _ _ | with_reducible assumption | with_reducible refine World.grownBy.gr_drew ?_ | with_reducible refine World.grownBy.gr_set ?_ (by simp) _ | with_reducible refine gr_alloc ?_ _))) (first
          | (refine step_append_nilcap rfl (.tmp 42) (.tmp 43) 27 rfl wr.heap.size 59 k0 3 rs.length cap HR0.out Try.underlying27 hk (.slice (some ⟨wr.heap.size, 0, none⟩) 0 0) 0 [] (by simp [Act.eval]) (own0 (heap_alloc_new wr (.cells #[] 59)) (by omega)) (by simp [Act.eval]) ?_; intro v' w4 ho hg; replace ho : w4.ownsRow wr.heap.size 59 3 v' rs.length (flatC rbC rs) := (by rw [HR0.out, HRE.out]; exact ho); have HO := Lib.hid ho; have hg0 : wr.grownBy w4 none := gr_far (B := wr.heap.size) (show wr.grownBy (wr.alloc (.cells #[] 59)).drew none from by repeat (first | with_reducible exact grownBy_refl _ _ | with_reducible assumption | with_reducible refine World.grownBy.gr_drew ?_ | with_reducible refine World.grownBy.gr_set ?_ (by simp) _ | with_reducible refine gr_alloc ?_ _)) hg (Nat.le_refl _) (fun q hq => by rw [own_q hq]; omega); clear ho hg)
          | (refine step_append_nilcap rfl (.tmp 42) (.tmp 43) 27 rfl wr.heap.size 59 k0 3 rs.length cap HR0.out Try.underlying27 hk (.slice (some ⟨wr.heap.size, 0, none⟩) 0 0) 0 [] (by simp [Act.eval]) (own0 (heapB wr (.cells #[] 59) _) (by omega)) (by simp [Act.eval]) ?_; intro v' w4 ho hg; replace ho : w4.ownsRow wr.heap.size 59 3 v' rs.length (flatC rbC rs) := (by rw [HR0.out, HRE.out]; exact ho); have HO := Lib.hid ho; have hg0 : wr.grownBy w4 none := gr_far (B := wr.heap.size) (show wr.grownBy ((wr.alloc (.cells #[] 59)).alloc (.cells #[.int .i64 site, .slice la j lc, .bool false] 59)).drew none from by repeat (first | with_reducible exact grownBy_refl _ _ | with_reducible assumption | with_reducible refine World.grownBy.gr_drew ?_ | with_reducible refine World.grownBy.gr_set ?_ (by simp) _ | with_reducible refine gr_alloc ?_ _)) hg (Nat.le_refl _) (fun q hq => by rw [own_q hq]; omega); have HN := Lib.hid (cells_thr (q := wr.heap.size + 1) (three_cellsA (wr.alloc (.cells #[] 59)) _ (by simp) site la lc j z) (show ((wr.alloc (.cells #[] 59)).alloc (.cells #[.int .i64 site, .slice la j lc, .bool false] 59)).grownBy w4 (some wr.heap.size) from ⟨hg.os, hg.tape, hg.output, hg.size, hg.block⟩) (by simp) (by simp)); clear ho hg)
          | (refine step_append_nilcap rfl (.tmp 42) (.tmp 43) 27 rfl wr.heap.size 59 k0 3 rs.length cap HR0.out Try.underlying27 hk (.slice (some ⟨(wr.heap.size + 1), 0, none⟩) 0 0) 0 [] (by simp [Act.eval]) (own0 (heapC wr (.cells #[] 59) _) (by omega)) (by simp [Act.eval]) ?_; intro v' w4 ho hg; replace ho : w4.ownsRow wr.heap.size 59 3 v' rs.length (flatC rbC rs) := (by rw [HR0.out, HRE.out]; exact ho); have HO := Lib.hid ho; have hg0 : wr.grownBy w4 none := gr_far (B := wr.heap.size) (show wr.grownBy ((wr.alloc (.cells #[.int .i64 site, .slice la j lc, .bool false] 59)).alloc (.cells #[] 59)).drew none from by repeat (first | with_reducible exact grownBy_refl _ _ | with_reducible assumption | with_reducible refine World.grownBy.gr_drew ?_ | with_reducible refine World.grownBy.gr_set ?_ (by simp) _ | with_reducible refine gr_alloc ?_ _)) hg (Nat.le_refl _) (fun q hq => by rw [own_q hq]; omega); have HN := Lib.hid (cells_thr (q := wr.heap.size) (cells_old (.cells #[] 59) (three_cellsA wr _ rfl site la lc j z) (by simp)) (show ((wr.alloc (.cells #[.int .i64 site, .slice la j lc, .bool false] 59)).alloc (.cells #[] 59)).grownBy w4 (some (wr.heap.size + 1)) from ⟨hg.os, hg.tape, hg.output, hg.size, hg.block⟩) (by simp; omega) (by simp)); clear ho hg)
          | (refine step_append_own rfl (.tmp 44) (.tmp 46) 27 rfl wr.heap.size 59 k0 _ 3 40 Try.underlying27 hk hy0 hy1 hy2 rfl (by decide) _ rs.length (flatC rbC rs) (by simp [Act.eval]) (own_gr HO.out (by repeat (first | with_reducible exact grownBy_refl _ _ | with_reducible assumption | with_reducible refine World.grownBy.gr_drew ?_ | with_reducible refine World.grownBy.gr_set ?_ (by simp) _ | with_reducible refine gr_alloc ?_ _))) ⟨w4.heap.size, 0, none⟩ 1 1 (rbC ⟨site, newL z j, false, la, lc⟩).toList (by simp [Act.eval]) rfl (three_cellsA _ _ rfl site la lc j z) (rbC_one _) (by unfold maxLen; omega) (by omega) (by have := hg0.size; simp; try omega) ?_; intro v'' w5 ho hg; have HO5 := Lib.hid ho; have hg5 : wr.grownBy w5 none := gr_far (B := wr.heap.size) (gr_alloc hg0 (.cells #[.int .i64 site, .slice la j lc, .bool false] 59)) hg (Nat.le_refl _) (fun q hq => own_ge HO.out hq); clear ho hg)
          | (refine step_append_own rfl (.tmp 44) (.tmp 46) 27 rfl wr.heap.size 59 k0 _ 3 40 Try.underlying27 hk hy0 hy1 hy2 rfl (by decide) _ rs.length (flatC rbC rs) (by simp [Act.eval]) (own_gr HO.out (by repeat (first | with_reducible exact grownBy_refl _ _ | with_reducible assumption | with_reducible refine World.grownBy.gr_drew ?_ | with_reducible refine World.grownBy.gr_set ?_ (by simp) _ | with_reducible refine gr_alloc ?_ _))) ⟨wr.heap.size + 1, 0, none⟩ 1 1 (rbC ⟨site, newL z j, false, la, lc⟩).toList (by simp [Act.eval]) rfl HN.out (rbC_one _) (by unfold maxLen; omega) (by omega) (by have := hg0.size; simp; try omega) ?_; intro v'' w5 ho hg; have HO5 := Lib.hid ho; have hg5 : wr.grownBy w5 none := gr_far (B := wr.heap.size) hg0 hg (Nat.le_refl _) (fun q hq => own_ge HO.out hq); clear ho hg)
          | (refine step_append_own rfl (.tmp 44) (.tmp 46) 27 rfl wr.heap.size 59 k0 _ 3 40 Try.underlying27 hk hy0 hy1 hy2 rfl (by decide) _ rs.length (flatC rbC rs) (by simp [Act.eval]) (own_gr HO.out (by repeat (first | with_reducible exact grownBy_refl _ _ | with_reducible assumption | with_reducible refine World.grownBy.gr_drew ?_ | with_reducible refine World.grownBy.gr_set ?_ (by simp) _ | with_reducible refine gr_alloc ?_ _))) ⟨wr.heap.size, 0, none⟩ 1 1 (rbC ⟨site, newL z j, false, la, lc⟩).toList (by simp [Act.eval]) rfl HN.out (rbC_one _) (by unfold maxLen; omega) (by omega) (by have := hg0.size; simp; try omega) ?_; intro v'' w5 ho hg; have HO5 := Lib.hid ho; have hg5 : wr.grownBy w5 none := gr_far (B := wr.heap.size) hg0 hg (Nat.le_refl _) (fun q hq => own_ge HO.out hq); clear ho hg))
        all_goals
          have HG5 := Lib.hid hg5
          clear hg5 hg0
          go_wp2_with fail
          go_ret3
          exact ⟨_, rfl, alloc_ref HR.out HA.out HG5.out HO5.out hl hn, grownBy_trans HA.out.gr HG5.out⟩
      · have HSRC := Lib.hid (fun (W : World) (hW : wr.grownBy W none) => (show ∀ i u, (flatC rbC rs)[i]? = some u → W.cell? (a.add i) = some u from by
          rcases HR.out.row with e | ⟨g, e, _⟩
          · subst e; intro i u hu; simp [flatC] at hu
          · obtain rfl : a = ⟨g, 0, none⟩ := by injection e
            exact (HR.out.gr (grownBy_trans HA.out.gr hW)).src))
        go_wp2_with fail
        go_region_held3 (fun W => W.cell? ⟨w.heap.size, 0, none⟩ = some (.int .i64 site) ∧ W.cell? ⟨w.heap.size, 1, none⟩ = some (.slice la j lc) ∧ W.cell? ⟨w.heap.size, 2, none⟩ = some (.bool false)) (exact HKP.out _ (by repeat (first | with_reducible exact grownBy_refl _ _ | with_reducible assumption | with_reducible refine World.grownBy.gr_drew ?_ | with_reducible refine World.grownBy.gr_set ?_ (by simp) _ | with_reducible refine gr_alloc ?_ _))) (first
          | (refine step_append_own rfl (.tmp 42) (.tmp 43) 27 rfl wr.heap.size 59 k0 _ 3 40 Try.underlying27 hk hy0 hy1 hy2 rfl (by decide) (.slice (some ⟨wr.heap.size, 0, none⟩) 0 0) 0 [] (by simp [Act.eval]) (own0 (heap_alloc_new wr (.cells #[] 59)) (by omega)) a rs.length cap (flatC rbC rs) (by simp [Act.eval]) (flat_len rbC_size _) (fun i u hu => HSRC.out _ (by repeat (first | with_reducible exact grownBy_refl _ _ | with_reducible assumption | with_reducible refine World.grownBy.gr_drew ?_ | with_reducible refine World.grownBy.gr_set ?_ (by simp) _ | with_reducible refine gr_alloc ?_ _)) i u hu) (flat_one rbC_one _) (by unfold maxLen; omega) (by omega) (by simp; try omega) ?_; intro v' w4 ho hg; replace ho : w4.ownsRow wr.heap.size 59 3 v' rs.length (flatC rbC rs) := (by simpa using ho); have HO := Lib.hid ho; have hg0 : wr.grownBy w4 none := gr_far (B := wr.heap.size) (show wr.grownBy (wr.alloc (.cells #[] 59)).drew none from by repeat (first | with_reducible exact grownBy_refl _ _ | with_reducible assumption | with_reducible refine World.grownBy.gr_drew ?_ | with_reducible refine World.grownBy.gr_set ?_ (by simp) _ | with_reducible refine gr_alloc ?_ _)) hg (Nat.le_refl _) (fun q hq => by rw [own_q hq]; omega); clear ho hg)
          | (refine step_append_own rfl (.tmp 42) (.tmp 43) 27 rfl wr.heap.size 59 k0 _ 3 40 Try.underlying27 hk hy0 hy1 hy2 rfl (by decide) (.slice (some ⟨wr.heap.size, 0, none⟩) 0 0) 0 [] (by simp [Act.eval]) (own0 (heapB wr (.cells #[] 59) _) (by omega)) a rs.length cap (flatC rbC rs) (by simp [Act.eval]) (flat_len rbC_size _) (fun i u hu => HSRC.out _ (by repeat (first | with_reducible exact grownBy_refl _ _ | with_reducible assumption | with_reducible refine World.grownBy.gr_drew ?_ | with_reducible refine World.grownBy.gr_set ?_ (by simp) _ | with_reducible refine gr_alloc ?_ _)) i u hu) (flat_one rbC_one _) (by unfold maxLen; omega) (by omega) (by simp; try omega) ?_; intro v' w4 ho hg; replace ho : w4.ownsRow wr.heap.size 59 3 v' rs.length (flatC rbC rs) := (by simpa using ho); have HO := Lib.hid ho; have hg0 : wr.grownBy w4 none := gr_far (B := wr.heap.size) (show wr.grownBy ((wr.alloc (.cells #[] 59)).alloc (.cells #[.int .i64 site, .slice la j lc, .bool false] 59)).drew none from by repeat (first | with_reducible exact grownBy_refl _ _ | with_reducible assumption | with_reducible refine World.grownBy.gr_drew ?_ | with_reducible refine World.grownBy.gr_set ?_ (by simp) _ | with_reducible refine gr_alloc ?_ _)) hg (Nat.le_refl _) (fun q hq => by rw [own_q hq]; omega); have HN := Lib.hid (cells_thr (q := wr.heap.size + 1) (three_cellsA (wr.alloc (.cells #[] 59)) _ (by simp) site la lc j z) (show ((wr.alloc (.cells #[] 59)).alloc (.cells #[.int .i64 site, .slice la j lc, .bool false] 59)).grownBy w4 (some wr.heap.size) from ⟨hg.os, hg.tape, hg.output, hg.size, hg.block⟩) (by simp) (by simp)); clear ho hg)
          | (refine step_append_own rfl (.tmp 42) (.tmp 43) 27 rfl wr.heap.size 59 k0 _ 3 40 Try.underlying27 hk hy0 hy1 hy2 rfl (by decide) (.slice (some ⟨(wr.heap.size + 1), 0, none⟩) 0 0) 0 [] (by simp [Act.eval]) (own0 (heapC wr (.cells #[] 59) _) (by omega)) a rs.length cap (flatC rbC rs) (by simp [Act.eval]) (flat_len rbC_size _) (fun i u hu => HSRC.out _ (by repeat (first | with_reducible exact grownBy_refl _ _ | with_reducible assumption | with_reducible refine World.grownBy.gr_drew ?_ | with_reducible refine World.grownBy.gr_set ?_ (by simp) _ | with_reducible refine gr_alloc ?_ _)) i u hu) (flat_one rbC_one _) (by unfold maxLen; omega) (by omega) (by simp; try omega) ?_; intro v' w4 ho hg; replace ho : w4.ownsRow wr.heap.size 59 3 v' rs.length (flatC rbC rs) := (by simpa using ho); have HO := Lib.hid ho; have hg0 : wr.grownBy w4 none := gr_far (B := wr.heap.size) (show wr.grownBy ((wr.alloc (.cells #[.int .i64 site, .slice la j lc, .bool false] 59)).alloc (.cells #[] 59)).drew none from by repeat (first | with_reducible exact grownBy_refl _ _ | with_reducible assumption | with_reducible refine World.grownBy.gr_drew ?_ | with_reducible refine World.grownBy.gr_set ?_ (by simp) _ | with_reducible refine gr_alloc ?_ _)) hg (Nat.le_refl _) (fun q hq => by rw [own_q hq]; omega); have HN := Lib.hid (cells_thr (q := wr.heap.size) (cells_old (.cells #[] 59) (three_cellsA wr _ rfl site la lc j z) (by simp)) (show ((wr.alloc (.cells #[.int .i64 site, .slice la j lc, .bool false] 59)).alloc (.cells #[] 59)).grownBy w4 (some (wr.heap.size + 1)) from ⟨hg.os, hg.tape, hg.output, hg.size, hg.block⟩) (by simp; omega) (by simp)); clear ho hg)
          | (refine step_append_own rfl (.tmp 44) (.tmp 46) 27 rfl wr.heap.size 59 k0 _ 3 40 Try.underlying27 hk hy0 hy1 hy2 rfl (by decide) _ rs.length (flatC rbC rs) (by simp [Act.eval]) (own_gr HO.out (by repeat (first | with_reducible exact grownBy_refl _ _ | with_reducible assumption | with_reducible refine World.grownBy.gr_drew ?_ | with_reducible refine World.grownBy.gr_set ?_ (by simp) _ | with_reducible refine gr_alloc ?_ _))) ⟨w4.heap.size, 0, none⟩ 1 1 (rbC ⟨site, newL z j, false, la, lc⟩).toList (by simp [Act.eval]) rfl (three_cellsA _ _ rfl site la lc j z) (rbC_one _) (by unfold maxLen; omega) (by omega) (by have := hg0.size; simp; try omega) ?_; intro v'' w5 ho hg; have HO5 := Lib.hid ho; have hg5 : wr.grownBy w5 none := gr_far (B := wr.heap.size) (gr_alloc hg0 (.cells #[.int .i64 site, .slice la j lc, .bool false] 59)) hg (Nat.le_refl _) (fun q hq => own_ge HO.out hq); clear ho hg)
          | (refine step_append_own rfl (.tmp 44) (.tmp 46) 27 rfl wr.heap.size 59 k0 _ 3 40 Try.underlying27 hk hy0 hy1 hy2 rfl (by decide) _ rs.length (flatC rbC rs) (by simp [Act.eval]) (own_gr HO.out (by repeat (first | with_reducible exact grownBy_refl _ _ | with_reducible assumption | with_reducible refine World.grownBy.gr_drew ?_ | with_reducible refine World.grownBy.gr_set ?_ (by simp) _ | with_reducible refine gr_alloc ?_ _))) ⟨wr.heap.size + 1, 0, none⟩ 1 1 (rbC ⟨site, newL z j, false, la, lc⟩).toList (by simp [Act.eval]) rfl HN.out (rbC_one _) (by unfold maxLen; omega) (by omega) (by have := hg0.size; simp; try omega) ?_; intro v'' w5 ho hg; have HO5 := Lib.hid ho; have hg5 : wr.grownBy w5 none := gr_far (B := wr.heap.size) hg0 hg (Nat.le_refl _) (fun q hq => own_ge HO.out hq); clear ho hg)
          | (refine step_append_own rfl (.tmp 44) (.tmp 46) 27 rfl wr.heap.size 59 k0 _ 3 40 Try.underlying27 hk hy0 hy1 hy2 rfl (by decide) _ rs.length (flatC rbC rs) (by simp [Act.eval]) (own_gr HO.out (by repeat (first | with_reducible exact grownBy_refl _ _ | with_reducible assumption | with_reducible refine World.grownBy.gr_drew ?_ | with_reducible refine World.grownBy.gr_set ?_ (by simp) _ | with_reducible refine gr_alloc ?_ _))) ⟨wr.heap.size, 0, none⟩ 1 1 (rbC ⟨site, newL z j, false, la, lc⟩).toList (by simp [Act.eval]) rfl HN.out (rbC_one _) (by unfold maxLen; omega) (by omega) (by have := hg0.size; simp; try omega) ?_; intro v'' w5 ho hg; have HO5 := Lib.hid ho; have hg5 : wr.grownBy w5 none := gr_far (B := wr.heap.size) hg0 hg (Nat.le_refl _) (fun q hq => own_ge HO.out hq); clear ho hg))
        all_goals
          have HG5 := Lib.hid hg5
          clear hg5 hg0
          go_wp2_with fail
          go_ret3
          exact ⟨_, rfl, alloc_ref HR.out HA.out HG5.out HO5.out hl hn, grownBy_trans HA.out.gr HG5.out⟩

end Go.Proofs.Ytblhnjoophhliaa
