/- scc: Push and Pop of the heap's type. -/
import Derived.Test.YtneehdjaaofjaaaEm
import Derived.Deep.DeepCutAuto
import Derived.Deep.RegionLaw
namespace Go.Proofs.Ytneehdjaaofjaaa
open Go.RowKit
/-- One number more, run: and whose block its answer has. -/
theorem run_app_oneS {w : World} {o : Oper} (base : Nat) (v : Value) (L : List Int) (hown : OwN base w v L) (b : Nat) (y : Int) (fz : Nat × Nat)
    (hb : w.heap[b]? = some (.cells #[.int .i64 y] 3 fz)) (hn : L.length ≤ 1000000000000) (hbase : base ≤ w.heap.size) :
    ∃ v' w', (Builtin.append_ #[47, 47] o.type #[v, .slice (some ⟨b, 0, none⟩) 1 1]).run Try.prog w = .ok v' w' ∧ Hid (OwN base w' v' (L ++ [y])) ∧ Hid (w.grownBy w' v.ownBlock) ∧ Hid (∀ g, v'.ownBlock = some g → v.ownBlock = some g ∨ w.heap.size ≤ g) := by
  obtain ⟨i0, hi, hz0, hz1, hz2⟩ := info_parts infoInt
  have hnews : ∀ (j : Nat) (u : Value), [Value.int .i64 y][j]? = some u → w.cell? ((⟨b, 0, none⟩ : Addr).add j) = some u := fun j u hu => by
    rw [add_none, Nat.zero_add, cell_of_row _ _ _ _ _ _ hb, ← Array.getElem?_toList]
    exact hu
  have h1c : ∀ u ∈ [Value.int .i64 y], u.oneCell' = true := fun u hu => by simp at hu; subst hu; rfl
  have hl : (intsV L).length = L.length := intsV_length L
  obtain ⟨v', w', hr, h2, h3, _⟩ := run_append_own (P := Try.prog) w base 47 o.type 3 i0 _ 1 8 Try.underlying47 hi hz0 hz1 hz2 rfl (by decide) v L.length (intsV L) hown ⟨b, 0, none⟩ 1 1 [.int .i64 y] rfl hnews h1c (by unfold maxLen; omega) (by omega) hbase
  have hblk : ∀ g, v'.ownBlock = some g → v.ownBlock = some g ∨ w.heap.size ≤ g := by
    intro g hg
    rcases hown.2 with ⟨rfl, _⟩ | ⟨g0, cap, cur, rfl, hbg, hh, hnc, hcm, hcs, htake⟩
    · have hr2 := run_append_nil (P := Try.prog) w 47 o.type 3 i0 _ Try.underlying47 hi hz0 ⟨b, 0, none⟩ 1 1 [.int .i64 y] (by rw [hz1]; rfl) hnews (by omega) (by omega) (by rw [hz2]; omega)
      rw [hr2] at hr
      injection hr with e1 e2
      subst e1
      injection hg with hg
      exact .inr (by show w.heap.size ≤ g; have : w.heap.size = g := hg; omega)
    · by_cases hroom : L.length + 1 ≤ cap
      · have hr2 := run_append_room (P := Try.prog) w 47 o.type 3 i0 Try.underlying47 hi g0 L.length cap cur hh ⟨b, 0, none⟩ 1 1 [.int .i64 y] (by rw [hz1]; rfl) hnews h1c hroom (by rw [hz1, hcs]; show L.length * 1 + 1 ≤ cap * 1; omega)
        rw [hr2] at hr
        injection hr with e1 e2
        subst e1
        exact .inl hg
      · have hr2 := run_append_grow (P := Try.prog) w 47 o.type 3 i0 _ Try.underlying47 hi hz0 ⟨g0, 0, none⟩ L.length cap (intsV L) (by rw [hz1, hl]; omega) (World.ownsRow.cells hown (g := g0) rfl) ⟨b, 0, none⟩ 1 1 [.int .i64 y] (by rw [hz1]; rfl) hnews (by omega) (by omega) (by rw [hz2]; exact growslice_fits (by omega) (by omega))
        rw [hr2] at hr
        injection hr with e1 e2
        subst e1
        injection hg with hg
        exact .inr (by show w.heap.size ≤ g; have : w.heap.size = g := hg; omega)
  refine ⟨v', w', hr, ?_, h3, hblk⟩
  show OwN base w' v' (L ++ [y])
  unfold OwN
  rw [intsV_append, List.length_append]
  exact h2
theorem step_app_oneS {w : World} {ops : Array Oper} {o : Oper} {a : Act} {K : Act → World → Prop} {Q : Exit → Act → World → Prop} {E' : Prop} (hgd : o.guard = none) (s x : Operand)
    (ho : o.op = .call { callee := .builtin .append, args := #[s, x], argTypes := #[47, 47] })
    (base : Nat) (v : Value) (L : List Int) (hs : a.eval s = v) (hown : OwN base w v L) (b : Nat) (y : Int) (fz : Nat × Nat)
    (hx : a.eval x = .slice (some ⟨b, 0, none⟩) 1 1) (hb : w.heap[b]? = some (.cells #[.int .i64 y] 3 fz)) (hn : L.length ≤ 1000000000000) (hbase : base ≤ w.heap.size)
    (h : ∀ v' w', Hid (OwN base w' v' (L ++ [y])) → Hid (w.grownBy w' v.ownBlock) → Hid (∀ g, v'.ownBlock = some g → v.ownBlock = some g ∨ w.heap.size ≤ g) → K (a.put o.dst v') w') : if Region.wanted o (yielded ops a.tmps) = true then Oper.wp Try.prog o a w K Q else E' := by
  have hw : Region.wanted o (yielded ops a.tmps) = true := by simp [Region.wanted, hgd]
  rw [if_pos hw]
  obtain ⟨v', w', hr, h2, h3, h4⟩ := run_app_oneS (o := o) base v L hown b y fz hb hn hbase
  unfold Oper.wp execOp
  simp only [ho, resolve, invoke, builtin, Sem.run_bind, Sem.run_pure, Result.andThen_ok, List.map_toArray, List.map_cons, List.map_nil, hs, hx, hr]
  exact h v' w' h2 h3 h4
theorem push_end {W X Y : World} {m : Nat} {v v4 : Value} {L' : List Int} (hg : W.grownBy X none) (hg4 : X.grownBy Y v.ownBlock) (hb4 : ∀ g, v4.ownBlock = some g → v.ownBlock = some g ∨ X.heap.size ≤ g) (ho4 : OwN 0 Y v4 L')
    {u : Value} (hbx : Y.heap[m]? = some (.cells #[u] 49 (0, 0))) : HpV (Y.setCell ⟨m, 0, none⟩ v4) m v4 L' ∧ HpT W (Y.setCell ⟨m, 0, none⟩ v4) m v v4 := by
  have gs := gr_setB Y ⟨m, 0, none⟩ v4
  refine ⟨⟨by simp [World.setCell, Array.getElem?_modify, hbx], ho4.row gs (.inr fun e => ho4.ne hbx (by decide) e.symm)⟩, ⟨gs.os.trans (hg4.os.trans hg.os), gs.tape.trans (hg4.tape.trans hg.tape), gs.output.trans (hg4.output.trans hg.output), Nat.le_trans hg.size (Nat.le_trans hg4.size gs.size), fun k hk h1 h2 => ?_, fun k hk => (hb4 k hk).imp id fun h => Nat.le_trans hg.size h⟩⟩
  have k1 : k < X.heap.size := Nat.lt_of_lt_of_le hk hg.size
  exact (gs.block k (Nat.lt_of_lt_of_le k1 hg4.size) (by intro e; injection e with e; exact h1 e)).trans ((hg4.block k k1 (fun e => h2 e.symm)).trans (hg.block k hk (by simp)))
theorem ta_is (v : Value) (W : World) : (Instr.typeAssert (.iface 3 v) 20 3 false).run Try.prog W = .ok v W := by kernel_rfl
set_option maxRecDepth 100000 in
set_option maxHeartbeats 4000000 in
theorem srPush_any (m : Nat) (v : Value) (L : List Int) (x : Int) (W : World) (h : HpV W m v L) (hl : L.length ≤ 1000000) :
    Calls Try.prog 77 #[.pointer (some ⟨m, 0, none⟩), .iface 3 (.int .i64 x)] W fun e w' => ∃ v', e = .returned (.tuple #[]) ∧ HpV w' m v' (L ++ [x]) ∧ HpT W w' m v v' := by
  have H := Lib.hid h
  obtain ⟨A, c, rfl⟩ := h.own.slice
  have c1 := h.cell
  have f1 : W.frozen? ⟨m, 0, none⟩ = false := by simp [World.frozen?, h.box]
  have HL := Lib.hid hl
  have hm := lt_of_heap h.box
  have HGA := Lib.hid (show W.grownBy (W.alloc (.cells #[.int .i64 x] 3)).drew none from (gr_alloc (grownBy_refl W none) _).gr_drew)
  have c2 : (W.alloc (.cells #[.int .i64 x] 3)).cell? ⟨m, 0, none⟩ = some (.slice A L.length c) := (h.gr (gr_alloc (grownBy_refl W none) _)).cell
  have HCC := Lib.hid (fun (Y : World) (hY : (W.alloc (.cells #[.int .i64 x] 3)).drew.grownBy Y (Value.slice A L.length c).ownBlock) => (show Y.heap[m]? = some (.cells #[.slice A L.length c] 49 (0, 0)) from
    (hY.block m (by simp; omega) ((h.gr HGA.out).own.ne (h.gr HGA.out).box (by decide))).trans (h.gr HGA.out).box))
  have hta : ∀ W : World, (Instr.typeAssert (.iface 3 (.int .i64 x)) 20 3 false).run Try.prog W = .ok (.int .i64 x) W := fun W => ta_is _ W
  clear h hl
  go_enter Try.func77, Try.ntmps77
  go_region_law (first
    | (refine step_app_oneS rfl (.tmp 8) (.tmp 11) rfl 0 (.slice A L.length c) L (by simp [Act.eval]) (H.out.own.gr HGA.out) W.heap.size x (0, 0) (by simp [Act.eval]) (heap_alloc_new W (.cells #[.int .i64 x] 3)) (by have := HL.out; omega) (Nat.zero_le _) ?_; intro v4 w4 ho4 hg4 hb4; obtain ⟨A4, c4, rfl⟩ := OwN.slice ho4.out; have hbx4 := HCC.out w4 hg4.out; have m1 : w4.cell? ⟨m, 0, none⟩ = some (.slice A L.length c) := (by simp [World.cell?, hbx4]); have m2 : w4.frozen? ⟨m, 0, none⟩ = false := (by simp [World.frozen?, hbx4])))
  all_goals (try go_wp2_with fail)
  all_goals go_end0
  all_goals
    obtain ⟨k1, k2⟩ := push_end HGA.out hg4.out hb4.out ho4.out hbx4
    exact ⟨_, rfl, by simpa using k1, by simpa using k2⟩
theorem OwN.cut {base b c : Nat} {W : World} {L : List Int} {x : Int} (h : OwN base W (.slice (some ⟨b, 0, none⟩) (L ++ [x]).length c) (L ++ [x])) : OwN base W (.slice (some ⟨b, 0, none⟩) L.length c) L := by
  rcases h.2 with ⟨h', _⟩ | ⟨g, cap, cur, h', hg, hh, hn, hc, hs, ht⟩
  · cases h'
  · injection h' with h1 h2 h3
    injection h1 with h1
    injection h1 with h1
    subst h1 h3
    rw [List.length_append, List.length_singleton] at hn ht
    refine ⟨by rw [intsV_length, Nat.mul_one], .inr ⟨b, c, cur, rfl, hg, hh, by omega, hc, hs, ?_⟩⟩
    have h5 : (cur.toList.take ((L.length + 1) * 1)).take L.length = (intsV (L ++ [x])).take L.length := by rw [ht]
    rw [List.take_take, intsV_append, List.take_left' (intsV_length L)] at h5
    rw [Nat.mul_one]
    rw [show min L.length ((L.length + 1) * 1) = L.length by omega] at h5
    exact h5
set_option maxRecDepth 100000 in
set_option maxHeartbeats 4000000 in
theorem srPop_any (m : Nat) (v : Value) (L : List Int) (x : Int) (W : World) (h : HpV W m v (L ++ [x])) (hl : L.length ≤ 1000000) :
    Calls Try.prog 76 #[.pointer (some ⟨m, 0, none⟩)] W fun e w' => ∃ v', e = .returned (.iface 3 (.int .i64 x)) ∧ HpV w' m v' L ∧ HpT W w' m v v' := by
  have H := Lib.hid h
  obtain ⟨b, c, rfl, hbm⟩ := h.some_ (by simp)
  have c1 := h.cell
  have f1 : W.frozen? ⟨m, 0, none⟩ = false := by simp [World.frozen?, h.box]
  have cx : W.cell? ⟨b, L.length, none⟩ = some (.int .i64 x) := h.own.cell rfl (by rw [List.getElem?_append_right (Nat.le_refl _), Nat.sub_self]; rfl)
  have hlen : (L ++ [x]).length = L.length + 1 := by simp
  have hcap : L.length + 1 ≤ c := by
    obtain ⟨ad, c', e, ⟨_, h1⟩, _⟩ := own_form h.own
    injection e with e1 e2 e3
    rw [hlen] at h1
    omega
  have hcut := h.own.cut
  have HV := Lib.hid (show HpV (W.setCell ⟨m, 0, none⟩ (.slice (some ⟨b, 0, none⟩) L.length c)) m (.slice (some ⟨b, 0, none⟩) L.length c) L ∧ HpT W (W.setCell ⟨m, 0, none⟩ (.slice (some ⟨b, 0, none⟩) L.length c)) m (.slice (some ⟨b, 0, none⟩) (L ++ [x]).length c) (.slice (some ⟨b, 0, none⟩) L.length c) from
    push_end (grownBy_refl _ _) (grownBy_refl _ _) (fun g hg => .inl hg) hcut h.box)
  clear h hcut hlen
  have w1 : IntKind.i64.wrap ((L.length : Int) + 1 - 1) = L.length := by rw [IntKind.wrap_i64]; omega
  go_enter Try.func76, Try.ntmps76
  go_wp2_with (go_at_call 25; refine (silen_any _ _ _ _).mono ?_; rintro e w' ⟨rfl, rfl⟩)
  go_ret
  exact ⟨_, rfl, HV.out.1, HV.out.2⟩

end Go.Proofs.Ytneehdjaaofjaaa
