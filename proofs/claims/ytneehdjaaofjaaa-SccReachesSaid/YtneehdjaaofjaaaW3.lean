/- The document's graphs, walked: Groups. -/
import Derived.Test.YtneehdjaaofjaaaW2
import Derived.Test.YtneehdjaaofjaaaWl
namespace Go.Proofs.Ytneehdjaaofjaaa
open Go.RowKit
theorem infoSlB : (Try.prog.info? 43).map (fun i => (i.zero, i.size, i.bytes)) = some (some (.slice none 0 0), 1, 24) := by kernel_rfl
def slV (N : Nat) (rows : List (Nat × List Bool)) : List Value := rows.map fun p => Value.slice (some ⟨p.1, 0, none⟩) N N
/-- One slice more. -/
theorem app_sl {w : World} {ops : Array Oper} {rest : List Oper} {o : Oper} {a : Act} {Q : Exit → Act → World → Prop} (hgd : o.guard = none) (s x : Operand)
    (ho : o.op = .call { callee := .builtin .append, args := #[s, x], argTypes := #[42, 42] })
    (base : Nat) (v : Value) (n : Nat) (xs : List Value) (hs : a.eval s = v) (hown : w.ownsRow base 43 1 v n xs) (b : Nat) (y : Value) (fz : Nat × Nat) (hy : y.oneCell' = true)
    (hx : a.eval x = .slice (some ⟨b, 0, none⟩) 1 1) (hb : w.heap[b]? = some (.cells #[y] 43 fz)) (hn : n ≤ 100000000000) (hbase : base ≤ w.heap.size)
    (h : ∀ v' w', w'.ownsRow base 43 1 v' (n + 1) (xs ++ [y]) → w.grownBy w' v.ownBlock → wpList Try.prog ops Q rest (a.put o.dst v') w') : wpList Try.prog ops Q (o :: rest) a w := by
  obtain ⟨i0, hi, hz0, hz1, hz2⟩ := info_parts infoSlB
  refine wpList_append_own w hgd s x 42 ho base 43 i0 _ 1 24 Try.underlying42 hi hz0 hz1 hz2 rfl (by decide) v n xs hs hown ⟨b, 0, none⟩ 1 1 [y] hx rfl ?_ ?_ ?_ ?_ hbase fun v' w' h2 h3 _ => h v' w' h2 h3
  · intro j u hu
    rw [add_none, Nat.zero_add, cell_of_row _ _ _ _ _ _ hb, ← Array.getElem?_toList]
    exact hu
  · intro u hu; simp at hu; subst hu; exact hy
  · unfold maxLen; omega
  · omega
/-- Marks and rows of slices are told apart by their types. -/
theorem apart_ty {W : World} {b1 b2 r c n : Nat} {M : List Bool} {v : Value} {xs : List Value} (h : MkAt b1 W r c M) (k : W.ownsRow b2 43 1 v n xs) : v.ownBlock ≠ some r := by
  intro e
  rcases k.2 with ⟨rfl, _⟩ | ⟨g, cap, cur, rfl, _, hh, _⟩
  · cases e
  · obtain rfl : g = r := by injection e
    rcases h.2 with ⟨h', _⟩ | ⟨g', cap', cur', h', _, hh', _⟩
    · cases h'
    · injection h' with h1
      injection h1 with h1
      injection h1 with h1
      subst h1
      rw [hh] at hh'
      injection hh' with hh'
      injection hh' with _ h2
      exact absurd h2 (by decide)
/-- Each row has the marks of what its number leads to. -/
def RowsOk (base : Nat) (ps : List (Nat × Nat)) (N : Nat) (W : World) (rows : List (Nat × List Bool)) : Prop := ∀ (v : Nat) (p : Nat × List Bool), rows[v]? = some p → p.2.length = N ∧ (∀ b, mk p.2 b ↔ Lds ps v b) ∧ MkAt base W p.1 N p.2
theorem RowsOk.gr {base N : Nat} {ps : List (Nat × Nat)} {W W' : World} {rows : List (Nat × List Bool)} (h : RowsOk base ps N W rows) (g : W.grownBy W' none) : RowsOk base ps N W' rows := fun v p hp => ⟨(h v p hp).1, (h v p hp).2.1, (h v p hp).2.2.gr g⟩
theorem RowsOk.row {base N : Nat} {ps : List (Nat × Nat)} {W W' : World} {rows : List (Nat × List Bool)} {b2 n : Nat} {v : Value} {xs : List Value} (h : RowsOk base ps N W rows) (k : W.ownsRow b2 43 1 v n xs) (g : W.grownBy W' v.ownBlock) : RowsOk base ps N W' rows :=
  fun u p hp => ⟨(h u p hp).1, (h u p hp).2.1, (h u p hp).2.2.row g (apart_ty (h u p hp).2.2 k)⟩
theorem RowsOk.next {base N : Nat} {ps : List (Nat × Nat)} {W : World} {rows : List (Nat × List Bool)} (h : RowsOk base ps N W rows) {r : Nat} {M : List Bool} (h1 : M.length = N) (h2 : ∀ b, mk M b ↔ Lds ps rows.length b) (h3 : MkAt base W r N M) : RowsOk base ps N W (rows ++ [(r, M)]) := fun v p hp => by
  by_cases hv : v < rows.length
  · rw [List.getElem?_append_left hv] at hp
    exact h v p hp
  · have hl := (List.getElem?_eq_some_iff.1 hp).1
    rw [List.length_append, List.length_singleton] at hl
    obtain rfl : v = rows.length := by omega
    rw [List.getElem?_append_right (Nat.le_refl _), Nat.sub_self] at hp
    injection hp with hp
    subst hp
    exact ⟨h1, h2, h3⟩
theorem slV_app (N : Nat) (rows : List (Nat × List Bool)) (r : Nat) (M : List Bool) : slV N (rows ++ [(r, M)]) = slV N rows ++ [Value.slice (some ⟨r, 0, none⟩) N N] := by unfold slV; rw [List.map_append]; rfl
theorem MkAt.base {b1 b2 r c : Nat} {W : World} {M : List Bool} (h : MkAt b1 W r c M) (hb : b2 ≤ b1) : MkAt b2 W r c M := ⟨h.1, h.2.imp id fun ⟨g, cap, cur, e, hg, q⟩ => ⟨g, cap, cur, e, Nat.le_trans hb hg, q⟩⟩
set_option maxRecDepth 100000 in
set_option maxHeartbeats 8000000 in
theorem r15_Groups_any (n : Int) (A : Option Addr) (c0 : Nat) (E : List Edg) (w : World) (hE : EdsAt w A E) (hEl : E.length ≤ 1000000) :
    Calls Try.prog 13 #[.int .i64 n, .slice A E.length c0] w fun e w' => ∃ G, IsGr (szE n) (prs (szE n) E) G ∧ RetInts w none G e w' := by
  have HE := Lib.hid hE
  clear hE
  obtain ⟨N, hNN⟩ : ∃ N, N = szE n := ⟨_, rfl⟩
  have hN : N ≤ 20000 := by rw [hNN]; exact szE_le n
  rw [← hNN]
  have HNN := Lib.hid hNN
  clear hNN
  go_enter Try.func13, Try.ntmps13
  go_wp2_with fail
  refine (r15_size_any n w).mono ?_
  rintro e w0 ⟨rfl, rfl⟩
  rw [← HNN.out]
  go_wp2_with fail
  go_loopw [6, 5] (fun i o wr => ∃ (q : Nat) (rows : List (Nat × List Bool)), q ≤ N ∧ i = .int .i64 q ∧ rows.length = q ∧ Hid (wr.ownsRow w.heap.size 43 1 o q (slV N rows)) ∧ Hid (RowsOk w.heap.size (prs N E) N wr rows) ∧ Hid (w.grownBy wr none)) (fun i _ _ => N - (intOf i).toNat)
  case atStart => exact ⟨0, [], Nat.zero_le _, rfl, rfl, own_nil _ _ _ _, fun v p h => by simp at h, grownBy_refl _ _⟩
  case round =>
    obtain ⟨q, rows, hq, rfl, hrl, HO, HR, HG⟩ := hrel
    have hsz := HG.out.size
    by_cases hlt : q < N
    · go_wp2_with fail
      refine (Leads_any N q A c0 E wr (HE.out.keep HG.out) hlt (by omega) hEl).mono ?_
      rintro e w1 ⟨r, M, rfl, hl, hm, ha, hg⟩
      have HO1 := Lib.hid (own_gr HO.out hg)
      have HG1 := Lib.hid (grownBy_trans HG.out hg)
      have HR1 := Lib.hid ((HR.out.gr hg).next hl (by rw [hrl]; exact hm) (ha.base hsz))
      have hs1 := HG1.out.size
      clear hl hm ha hg
      go_wp2_with (at_builtin; go_must (refine app_sl rfl (.tmp 17) (.tmp 22) rfl w.heap.size u5 _ (slV N rows) rfl (HO1.out.alloc _) w1.heap.size (.slice (some ⟨r, 0, none⟩) N N) _ rfl rfl (heap_alloc_new w1 (.cells #[.slice (some ⟨r, 0, none⟩) N N] 43)) (by omega) (by simp only [World.size_alloc]; omega) ?_; intro v3 w3 ho3 hg3; have HG3 := Lib.hid (gr_own (gr_alloc HG1.out _) hg3 (own_is HO1.out)); have HR3 := Lib.hid ((HR1.out.gr (gr_alloc (grownBy_refl _ none) _)).row (HO1.out.alloc _) hg3); have HO3 := Lib.hid ho3; clear ho3 hg3))
      go_roundw
      case rel => exact ⟨q + 1, rows ++ [(r, M)], by omega, by go_num, by rw [List.length_append, hrl]; rfl, by rw [slV_app]; exact HO3, HR3, HG3⟩
      case measure => simp [intOf]; omega
    · obtain rfl : q = N := by omega
      have HRL := Lib.hid hrl
      clear hrl
      obtain ⟨w2, hw2⟩ : ∃ x, x = wr := ⟨_, rfl⟩
      subst hw2
      go_wp2_with fail
      go_loopw [8, 7] (fun i o wi => ∃ (v : Nat) (G : List Int), v ≤ q ∧ i = .int .i64 v ∧ G.length = v ∧ Hid (∀ u, u < v → ∃ x : Nat, G[u]? = some (x : Int) ∧ Top (prs q E) u x) ∧ Hid (wi.ownsRow w2.heap.size 3 1 o v (intsV G)) ∧ Hid (w2.grownBy wi none)) (fun i _ _ => q - (intOf i).toNat)
      case atStart => exact ⟨0, [], Nat.zero_le _, rfl, rfl, fun u h => absurd h (Nat.not_lt_zero _), own_nil _ _ _ _, grownBy_refl _ _⟩
      case round =>
        obtain ⟨v, G, hv, rfl, hgl, HT, HO2, HG2⟩ := hrel
        have hs2 := HG2.out.size
        by_cases hvq : v < q
        · obtain ⟨g, gc, rfl, hg1, hg2⟩ := own_some HO.out (by omega)
          obtain ⟨w3, hw3⟩ : ∃ x, x = wr := ⟨_, rfl⟩
          subst hw3
          have HOW := Lib.hid (own_gr HO.out HG2.out)
          have HRW := Lib.hid (HR.out.gr HG2.out)
          have HROW := Lib.hid (fun (j : Nat) (hj : j < q) => show ∃ p : Nat × List Bool, rows[j]? = some p ∧ w3.cell? ⟨g, j, none⟩ = some (.slice (some ⟨p.1, 0, none⟩) q q) from
            ⟨rows[j]'(by rw [HRL.out]; exact hj), List.getElem?_eq_getElem _, by
              rw [World.ownsRow.cellAt HOW.out j (by omega)]
              unfold slV
              rw [List.getElem?_map, List.getElem?_eq_getElem (show j < rows.length by rw [HRL.out]; exact hj)]
              rfl⟩)
          obtain ⟨⟨rv, Mv⟩, hrv, hcv⟩ := HROW.out v hvq
          obtain ⟨hlv, hmv, hav⟩ := HRW.out v _ hrv
          dsimp only at hlv hmv hav hcv
          have HLV := Lib.hid hlv
          have HMV := Lib.hid hmv
          have HAV := Lib.hid hav
          clear hlv hmv hav hrv
          go_wp2_with fail
          go_loopw [9] (fun i wi => ∃ j : Nat, j ≤ v ∧ i = .int .i64 j ∧ Hid (∀ u, u < j → ¬ Mut (prs q E) v u) ∧ wi = w3) (fun i _ => v - (intOf i).toNat)
          case atStart => exact ⟨0, Nat.zero_le _, rfl, fun u h => absurd h (Nat.not_lt_zero _), rfl⟩
          case round =>
            obtain ⟨j, hj, rfl, HNM, hwr⟩ := hrel
            subst hwr
            have hjq : j < q := by omega
            obtain ⟨⟨rj, Mj⟩, hrj, hcj⟩ := HROW.out j hjq
            obtain ⟨hlj, hmj, haj⟩ := HRW.out j _ hrj
            dsimp only at hlj hmj haj hcj
            have HB1 := Lib.hid (List.getElem?_eq_getElem (show j < Mv.length by rw [HLV.out]; exact hjq))
            have HB2 := Lib.hid (List.getElem?_eq_getElem (show v < Mj.length by rw [hlj]; exact hvq))
            have HM1 := Lib.hid (show Mv[j]'(by rw [HLV.out]; exact hjq) = true ↔ Lds (prs q E) v j by
              rw [← HMV.out j]
              unfold mk
              rw [HB1.out, Option.some.injEq])
            have HM2 := Lib.hid (show Mj[v]'(by rw [hlj]; exact hvq) = true ↔ Lds (prs q E) j v by
              rw [← hmj v]
              unfold mk
              rw [HB2.out, Option.some.injEq])
            have hc1 := HAV.out.cell HB1.out
            have hc2 := haj.cell HB2.out
            clear HB1 HB2
            generalize Mv[j]'_ = b1 at *
            generalize Mj[v]'_ = b2 at *
            clear hlj hmj haj hrj
            by_cases hb : b1 = true ∧ b2 = true
            · obtain ⟨rfl, rfl⟩ := hb
              have HMU := Lib.hid (show Mut (prs q E) v j from ⟨HM1.out.1 rfl, HM2.out.1 rfl⟩)
              have HTOP := Lib.hid (show Top (prs q E) v j from ⟨HMU.out, fun u hu => Decidable.byContradiction fun hn => HNM.out u (by omega) hu⟩)
              go_wp2_with (at_builtin; go_must (refine app_int rfl (.tmp 49) (.tmp 51) rfl w2.heap.size u7 _ G rfl (HO2.out.alloc _) _ j _ rfl (heap_alloc_new _ (.cells #[.int .i64 j] 3)) (by omega) (by simp only [World.size_alloc]; omega) ?_; intro v4 w4 ho4 hg4; have HG4 := Lib.hid (gr_own (gr_alloc HG2.out _) hg4 (own_is HO2.out)); have HO4 := Lib.hid ho4; clear ho4 hg4))
              go_roundw
              case rel => exact ⟨v + 1, G ++ [(j : Int)], by omega, by go_num, by rw [List.length_append, hgl]; rfl, fun u hu => by
                by_cases huv : u < v
                · obtain ⟨x, hx, ht⟩ := HT.out u huv
                  exact ⟨x, by rw [List.getElem?_append_left (by omega)]; exact hx, ht⟩
                · obtain rfl : u = v := by omega
                  exact ⟨j, by rw [List.getElem?_append_right (by omega), hgl, Nat.sub_self]; rfl, HTOP.out⟩, HO4, HG4⟩
              case measure => simp [intOf]; omega
            · have HNJ := Lib.hid (show ¬ Mut (prs q E) v j from fun h => hb ⟨HM1.out.2 h.1, HM2.out.2 h.2⟩)
              have hjv : j < v := by
                rcases Nat.lt_or_ge j v with h | h
                · exact h
                · obtain rfl : j = v := by omega
                  exact absurd (Mut.refl _ _) HNJ.out
              have HNX := Lib.hid (show ∀ u, u < j + 1 → ¬ Mut (prs q E) v u from fun u hu => by
                rcases Nat.lt_succ_iff_lt_or_eq.1 hu with h | rfl
                · exact HNM.out u h
                · exact HNJ.out)
              have hbb : b1 = false ∨ (b1 = true ∧ b2 = false) := by
                cases b1
                · exact .inl rfl
                · cases b2
                  · exact .inr ⟨rfl, rfl⟩
                  · exact absurd ⟨rfl, rfl⟩ hb
              clear hb
              rcases hbb with rfl | ⟨rfl, rfl⟩
              all_goals
                go_wp2_with fail
                go_roundw
                case rel => exact ⟨j + 1, by omega, by go_num, HNX, trivial⟩
                case measure => simp [intOf]; omega
        · have hvv : v = q := by omega
          go_wp2_with fail
          go_ret
          exact ⟨G, ⟨by omega, fun u hu => HT.out u (by omega)⟩, RetInts.own HO2.out HG.out.size (grownBy_trans HG.out HG2.out)⟩

end Go.Proofs.Ytneehdjaaofjaaa
