/- scc: a graph of components. -/
import Derived.Test.YtneehdjaaofjaaaE4
import Derived.Deep.DeepCutAuto
import Derived.BigQuiet
namespace Go.Proofs.Ytneehdjaaofjaaa
open Go.RowKit
/-- The edges between components that the first i rows, and the first k numbers of row i, tell. -/
def ShR (G : List (List Int)) (Q : List Int) (i k : Nat) (a b : Nat) : Prop :=
  ∃ (x y : Nat) (row : List Int), G[x]? = some row ∧ ((x < i ∧ (y : Int) ∈ row) ∨ (x = i ∧ (y : Int) ∈ row.take k)) ∧ Q[x]? = some (a : Int) ∧ Q[y]? = some (b : Int) ∧ a ≠ b
theorem ShR.next {G : List (List Int)} {Q : List Int} {i k j a b : Nat} {row : List Int} (hi : G[i]? = some row) (hk : row[k]? = some (j : Int)) (ha : Q[i]? = some (a : Int)) (hb : Q[j]? = some (b : Int)) (x y : Nat) :
    ShR G Q i (k + 1) x y ↔ ShR G Q i k x y ∨ (a ≠ b ∧ x = a ∧ y = b) := by
  unfold ShR
  constructor
  · rintro ⟨u, v, r, hr, h | ⟨rfl, h⟩, h1, h2, h3⟩
    · exact .inl ⟨u, v, r, hr, .inl h, h1, h2, h3⟩
    · rw [hi] at hr
      injection hr with hr
      subst hr
      rw [List.take_add_one, hk, List.mem_append] at h
      rcases h with h | h
      · exact .inl ⟨_, v, _, hi, .inr ⟨rfl, h⟩, h1, h2, h3⟩
      · have : (v : Int) = j := by simpa using h
        obtain rfl : v = j := by omega
        rw [ha] at h1
        rw [hb] at h2
        injection h1 with h1
        injection h2 with h2
        exact .inr ⟨by omega, by omega, by omega⟩
  · rintro (⟨u, v, r, hr, h | ⟨rfl, h⟩, h1, h2, h3⟩ | ⟨h1, rfl, rfl⟩)
    · exact ⟨u, v, r, hr, .inl h, h1, h2, h3⟩
    · rw [hi] at hr
      injection hr with hr
      subst hr
      exact ⟨_, v, _, hi, .inr ⟨rfl, by rw [List.take_add_one]; exact List.mem_append_left _ h⟩, h1, h2, h3⟩
    · exact ⟨i, j, row, hi, .inr ⟨rfl, by rw [List.take_add_one, hk]; simp⟩, ha, hb, h1⟩
theorem ShR.turn {G : List (List Int)} {Q : List Int} {i k : Nat} {row : List Int} (hi : G[i]? = some row) (hk : row.length ≤ k) (a b : Nat) : ShR G Q i k a b ↔ ShR G Q (i + 1) 0 a b := by
  unfold ShR
  constructor
  · rintro ⟨x, y, r, hr, ⟨h1, h2⟩ | ⟨rfl, h⟩, h3⟩
    · exact ⟨x, y, r, hr, .inl ⟨by omega, h2⟩, h3⟩
    · exact ⟨_, y, r, hr, .inl ⟨by omega, List.mem_of_mem_take h⟩, h3⟩
  · rintro ⟨x, y, r, hr, ⟨h1, h2⟩ | ⟨_, h⟩, h3⟩
    · by_cases e : x = i
      · subst e
        rw [hi] at hr
        injection hr with hr
        subst hr
        exact ⟨_, y, _, hi, .inr ⟨rfl, by rw [List.take_of_length_le hk]; exact h2⟩, h3⟩
      · exact ⟨x, y, r, hr, .inl ⟨by omega, h2⟩, h3⟩
    · simp at h
def ShRel (N : Nat) (G : List (List Int)) (Q : List Int) (w : World) (o i k K : Nat) (wr : World) : Prop :=
  ∃ (vs : List Value) (H : List (List Int)), Hid (GrO o wr o vs H) ∧ Hid (GrK (ShR G Q i k) N H) ∧ Hid (Short K H) ∧ Hid (w.grownBy wr none)
set_option maxRecDepth 100000 in
set_option maxHeartbeats 8000000 in
theorem shrunk_any (R : Nat → Nat → Prop) (N c cq : Nat) (A B : Option Addr) (G : List (List Int)) (Q : List Int) (w : World) (hG : GrAt w A G none) (hK : GrK R N G) (hS : Short 1000 G) (hN : N ≤ 20000)
    (hB : IntsAt w B N cq Q) (hQ : ∀ x, x < N → ∃ t : Nat, Q[x]? = some (t : Int) ∧ t < N) :
    Calls Try.prog 22 #[.slice A N c, .slice B N cq] w fun e w' => ∃ (o : Nat) (H : List (List Int)), e = .returned (.slice (some ⟨o, 0, none⟩) N N) ∧ w.heap.size ≤ o ∧ GrP w' (some ⟨o, 0, none⟩) H (fun k => w.heap.size ≤ k) ∧
      GrK (fun a b => ∃ x y : Nat, R x y ∧ Q[x]? = some (a : Int) ∧ Q[y]? = some (b : Int) ∧ a ≠ b) N H ∧ Short 20000000 H ∧ w.grownBy w' none := by
  have HGA := Lib.hid hG
  have HK := Lib.hid hK
  have HS := Lib.hid hS
  have HB := Lib.hid hB
  have HQ := Lib.hid hQ
  have HGL := Lib.hid hK.len
  clear hG hK hS hB hQ
  obtain ⟨i0, hi, hz0, hz1, hz2⟩ := info_parts infoSlI
  go_enter Try.func22, Try.ntmps22
  go_wp2_with (at_make; go_must (refine wpList_make_full _ rfl (.tmp 13) (.tmp 13) 38 rfl w.heap.size 27 i0 _ 1 Try.underlying38 hi hz0 hz1 .i64 .i64 (N : Int) (N : Int) N rfl rfl rfl rfl (by rw [hz2]; omega) (by unfold maxLen; omega) (Nat.le_refl _) ?_; intro w1 ho1 hg1; have HM1 := Lib.hid (GrO.made_ ho1); have HG1 := Lib.hid hg1; clear ho1 hg1))
  clear hi hz0 hz1 hz2
  generalize hbb : w.heap.size = b at *
  go_loopw [17] (fun i wr => ∃ q : Nat, q ≤ N ∧ i = .int .i64 q ∧ ShRel N G Q w b q 0 (q * 1000) wr) (fun i _ => N - (intOf i).toNat)
  case atStart => exact ⟨0, Nat.zero_le _, rfl, _, _, HM1, GrK.first (fun a b h => by
    obtain ⟨x, y, r, _, ⟨h, _⟩ | ⟨_, h⟩, _⟩ := h
    · exact absurd h (Nat.not_lt_zero _)
    · simp at h) N, Short.first _ N, HG1⟩
  case round =>
    obtain ⟨q, hq, rfl, vs, H, HO, HH, HSH, HW⟩ := hrel
    by_cases hlt : q < N
    · have hr := List.getElem?_eq_getElem (show q < G.length by rw [HGL.out]; exact hlt)
      generalize G[q]'_ = row at hr
      have HR := Lib.hid hr
      have hrl := HS.out q row hr
      obtain ⟨ad, B2, d, rfl, hc0, hI⟩ := HGA.out.row hr
      have HI := Lib.hid hI
      have hc := (World.cell?_of_block (HW.out.block _ (World.block_lt_of_cell? w _ hc0) (by simp))).trans hc0
      clear hr hc0 hI
      go_wp2_with fail
      go_loopw [24] (fun i wr => ∃ k : Nat, k ≤ row.length ∧ i = .int .i64 k ∧ ShRel N G Q w b q k (q * 1000 + k) wr) (fun i _ => row.length - (intOf i).toNat)
      case atStart => exact ⟨0, Nat.zero_le _, rfl, ⟨vs, H, HO, HH, HSH, HW⟩⟩
      case round =>
        clear HO HH HSH HW hc
        obtain ⟨k, hk, rfl, ⟨vs2, H2, HO, HH, HSH, HW⟩⟩ := hrel
        have hsz := HW.out.size
        by_cases hlt2 : k < row.length
        · have hx := List.getElem?_eq_getElem hlt2
          obtain ⟨bd, rfl, hx9⟩ := HI.out.at_ hlt2
          obtain ⟨j, hxj, hj, _⟩ := HK.out.row q row HR.out _ (List.getElem_mem hlt2)
          rw [hxj] at hx
          clear hx9 hxj
          have hc1 := (HI.out.keep HW.out).cellOf hx
          have HX := Lib.hid hx
          obtain ⟨a, hqa, haN⟩ := HQ.out q hlt
          obtain ⟨t, hqt, htN⟩ := HQ.out j hj
          obtain ⟨bq, rfl, hz9⟩ := HB.out.at_ (show q < Q.length from (List.getElem?_eq_some_iff.1 hqa).1)
          have ha := (HB.out.keep HW.out).cellOf hqa
          have hb := (HB.out.keep HW.out).cellOf hqt
          have HQA := Lib.hid hqa
          have HQT := Lib.hid hqt
          have hnq : Q.length = N := HB.out.len.symm
          clear hz9 hx hqa hqt
          go_upto_region 8 with fail
          go_quiet (fail)
          go_upto_region 9 with fail
          have HG8 := Lib.hid (show wr.grownBy (wr.drewN nq) none from gr_drewN (grownBy_refl _ _) _)
          have HO8 := Lib.hid (HO.out.gr HG8.out)
          have HW8 := Lib.hid (grownBy_trans HW.out HG8.out)
          have hsz8 := HW8.out.size
          generalize wr.drewN nq = w8 at *
          clear ha hb hc1
          by_cases hat : a = t
          · subst hat
            have HNX := Lib.hid (fun x y => ShR.next HR.out HX.out HQA.out HQT.out x y)
            go_wp2_with fail
            go_roundw
            case rel => exact ⟨k + 1, by omega, by go_num, vs2, H2, HO8, HH.out.congr (fun x y => by rw [HNX.out]; simp), HSH.out.mono (by omega), HW8⟩
            case measure => simp [intOf]; omega
          · have ht := List.getElem?_eq_getElem (show a < H2.length by rw [HH.out.len]; exact haN)
            generalize H2[a]'_ = rt at ht
            obtain ⟨v, hv, hov⟩ := HO8.out.row a rt ht
            obtain ⟨A3, c3, rfl⟩ := hov.slice
            have hc2 := HO8.out.cell hv
            have hfr := HO8.out.fr a
            have HT := Lib.hid ht
            have HV := Lib.hid hv
            have HOV := Lib.hid hov
            have HBL := Lib.hid (lt_of_heap HO8.out.out)
            have HRL := Lib.hid (HSH.out a rt ht)
            have HNE := Lib.hid (hov.ne HO8.out.out (by decide))
            have HNA := Lib.hid hat
            have hti : ((a : Int) == (t : Int)) = false := by rw [beq_eq_false_iff_ne]; omega
            clear ht hv hov
            go_wp2_with (at_builtin; go_must (refine app_one2 rfl (.tmp 44) (.tmp 46) rfl b (.slice A3 rt.length c3) rt rfl (HOV.out.gr (gr_alloc (grownBy_refl w8 none) _)) w8.heap.size (t : Int) (0, 0) rfl (heap_alloc_new w8 (.cells #[.int .i64 (t : Int)] 3)) (by have := HRL.out; omega) (by simp; have := HBL.out; omega) ?_; intro v4 w4 ho4 hg4 hb4; obtain ⟨A4, c4, rfl⟩ := OwN.slice ho4.out; have hfr4 : w4.frozen? ⟨b, a, none⟩ = false := (World.frozen?_of_block (hg4.out.block b (by simp; have := HBL.out; omega) HNE.out)).trans ((HO8.out.gr (gr_alloc (grownBy_refl w8 none) _)).fr a); have hcl4 : w4.cell? ⟨b, a, none⟩ = some (.slice A3 rt.length c3) := (World.cell?_of_block (hg4.out.block b (by simp; have := HBL.out; omega) HNE.out)).trans ((HO8.out.gr (gr_alloc (grownBy_refl w8 none) _)).cell HV.out)))
            go_roundw
            case rel => exact ⟨k + 1, by omega, by go_num, vs2.set a _, H2.set a (rt ++ [(t : Int)]), by
              have h := (HO8.out.gr (gr_alloc (grownBy_refl w8 none) (.cells #[.int .i64 (t : Int)] 3))).put HT.out HV.out ho4.out hg4.out (fun k hk => hb4.out k hk)
              refine Lib.hid ?_
              simpa using h, HH.out.put HT.out htN (fun x y => by rw [ShR.next HR.out HX.out HQA.out HQT.out x y]; simp [HNA.out]), HSH.out.put HT.out (by omega), gr_own (gr_own (gr_alloc HW8.out _) hg4.out (fun k hk => by have := own_is HOV.out k hk; omega)) (gr_setB w4 ⟨b, a, none⟩ _) (fun k hk => by injection hk with hk; have : b = k := hk; omega)⟩
            case measure => simp [intOf]; omega
        · go_wp2_with fail
          go_roundw
          case rel => exact ⟨q + 1, by omega, by go_num, vs2, H2, HO, HH.out.congr (ShR.turn HR.out (by omega)), HSH.out.mono (by omega), HW⟩
          case measure => simp [intOf]; omega
    · obtain rfl : q = N := by omega
      go_wp2_with fail
      go_ret
      refine ⟨b, H, rfl, by omega, by rw [hbb]; exact HO.out.atP, HH.out.congr (fun a t => ?_), HSH.out.mono (by omega), HW.out⟩
      constructor
      · rintro ⟨x, y, r, hr, ⟨_, h⟩ | ⟨_, h⟩, h3⟩
        · obtain ⟨z, hz, _, hR⟩ := HK.out.row x r hr _ h
          obtain rfl : y = z := by omega
          exact ⟨x, y, hR, h3⟩
        · simp at h
      · rintro ⟨x, y, h, h3⟩
        obtain ⟨r, hr, hx⟩ := HK.out.all x y h
        exact ⟨x, y, r, hr, .inl ⟨by rw [← HGL.out]; exact (List.getElem?_eq_some_iff.1 hr).1, hx⟩, h3⟩

end Go.Proofs.Ytneehdjaaofjaaa
