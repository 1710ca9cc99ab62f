/- scc: a graph turned round. -/
import Derived.Test.YtneehdjaaofjaaaE2
import Derived.Test.YtneehdjaaofjaaaW1
import Derived.Deep.DeepCutAuto
namespace Go.Proofs.Ytneehdjaaofjaaa
open Go.RowKit
/-- The edges of the first i rows, and of the first k numbers of row i, turned round. -/
def RvR (G : List (List Int)) (i k : Nat) (x y : Nat) : Prop := ∃ row, G[y]? = some row ∧ ((y < i ∧ (x : Int) ∈ row) ∨ (y = i ∧ (x : Int) ∈ row.take k))
theorem RvR.next {G : List (List Int)} {i k j : Nat} {row : List Int} (hi : G[i]? = some row) (hk : row[k]? = some (j : Int)) (x y : Nat) : RvR G i (k + 1) x y ↔ RvR G i k x y ∨ (x = j ∧ y = i) := by
  unfold RvR
  constructor
  · rintro ⟨r, hr, h | ⟨rfl, h⟩⟩
    · exact .inl ⟨r, hr, .inl h⟩
    · rw [hi] at hr
      injection hr with hr
      subst hr
      rw [List.take_add_one, hk, List.mem_append] at h
      rcases h with h | h
      · exact .inl ⟨_, hi, .inr ⟨rfl, h⟩⟩
      · have : (x : Int) = j := by simpa using h
        exact .inr ⟨by omega, rfl⟩
  · rintro (⟨r, hr, h | ⟨rfl, h⟩⟩ | ⟨rfl, rfl⟩)
    · exact ⟨r, hr, .inl h⟩
    · rw [hi] at hr
      injection hr with hr
      subst hr
      exact ⟨_, hi, .inr ⟨rfl, by rw [List.take_add_one]; exact List.mem_append_left _ h⟩⟩
    · exact ⟨row, hi, .inr ⟨rfl, by rw [List.take_add_one, hk]; simp⟩⟩
theorem RvR.turn {G : List (List Int)} {i k : Nat} {row : List Int} (hi : G[i]? = some row) (hk : row.length ≤ k) (x y : Nat) : RvR G i k x y ↔ RvR G (i + 1) 0 x y := by
  unfold RvR
  constructor
  · rintro ⟨r, hr, ⟨h1, h2⟩ | ⟨rfl, h⟩⟩
    · exact ⟨r, hr, .inl ⟨by omega, h2⟩⟩
    · exact ⟨r, hr, .inl ⟨by omega, List.mem_of_mem_take h⟩⟩
  · rintro ⟨r, hr, ⟨h1, h2⟩ | ⟨_, h⟩⟩
    · by_cases e : y = i
      · subst e
        rw [hi] at hr
        injection hr with hr
        subst hr
        exact ⟨_, hi, .inr ⟨rfl, by rw [List.take_of_length_le hk]; exact h2⟩⟩
      · exact ⟨r, hr, .inl ⟨by omega, h2⟩⟩
    · simp at h
/-- What reversed has made. -/
def RvRel (N : Nat) (G : List (List Int)) (w : World) (o i k K : Nat) (wr : World) : Prop :=
  ∃ (vs : List Value) (H : List (List Int)), Hid (GrO o wr o vs H) ∧ Hid (GrK (RvR G i k) N H) ∧ Hid (Short K H) ∧ Hid (w.grownBy wr none)
theorem GrP.row {w : World} {A : Option Addr} {G : List (List Int)} {O : Nat → Prop} (h : GrP w A G O) {i : Nat} {row : List Int} (hi : G[i]? = some row) : ∃ ad B d, A = some ad ∧ w.cell? (ad.add i) = some (.slice B row.length d) ∧ IntsAt w B row.length d row := by
  obtain ⟨ad, B, d, h1, _, h2, h3, _⟩ := h i row hi
  exact ⟨ad, B, d, h1, h2, h3⟩
set_option maxRecDepth 100000 in
set_option maxHeartbeats 8000000 in
theorem reversed_any (R : Nat → Nat → Prop) (N c : Nat) (A : Option Addr) (G : List (List Int)) (w : World) (hG : GrAt w A G none) (hK : GrK R N G) (hS : Short 1000 G) (hN : N ≤ 20000) :
    Calls Try.prog 31 #[.slice A N c] w fun e w' => ∃ (o : Nat) (H : List (List Int)), e = .returned (.slice (some ⟨o, 0, none⟩) N N) ∧ w.heap.size ≤ o ∧ GrP w' (some ⟨o, 0, none⟩) H (fun k => w.heap.size ≤ k) ∧ GrK (fun a b => R b a) N H ∧ Short 20000000 H ∧ w.grownBy w' none := by
  have HGA := Lib.hid hG
  have HK := Lib.hid hK
  have HS := Lib.hid hS
  have HGL := Lib.hid hK.len
  clear hG hK hS
  obtain ⟨i0, hi, hz0, hz1, hz2⟩ := info_parts infoSlI
  go_enter Try.func31, Try.ntmps31
  go_wp2_with (at_make; go_must (refine wpList_make_full _ rfl (.tmp 9) (.tmp 9) 38 rfl w.heap.size 27 i0 _ 1 Try.underlying38 hi hz0 hz1 .i64 .i64 (N : Int) (N : Int) N rfl rfl rfl rfl (by rw [hz2]; omega) (by unfold maxLen; omega) (Nat.le_refl _) ?_; intro w1 ho1 hg1; have HM1 := Lib.hid (GrO.made_ ho1); have HG1 := Lib.hid hg1; clear ho1 hg1))
  clear hi hz0 hz1 hz2
  generalize hbb : w.heap.size = b at *
  go_loopw [13] (fun i wr => ∃ q : Nat, q ≤ N ∧ i = .int .i64 q ∧ RvRel N G w b q 0 (q * 1000) wr) (fun i _ => N - (intOf i).toNat)
  case atStart => exact ⟨0, Nat.zero_le _, rfl, _, _, HM1, GrK.first (fun a b h => by
    obtain ⟨r, _, ⟨h, _⟩ | ⟨_, h⟩⟩ := h
    · exact absurd h (Nat.not_lt_zero _)
    · simp at h) N, Short.first _ N, HG1⟩
  case round =>
    obtain ⟨q, hq, rfl, vs, H, HO, HH, HSH, HW⟩ := hrel
    by_cases hlt : q < N
    · have hr := List.getElem?_eq_getElem (show q < G.length by rw [HGL.out]; exact hlt)
      generalize G[q]'_ = row at hr
      have HR := Lib.hid hr
      have hrl := HS.out q row hr
      obtain ⟨ad, B, d, rfl, hc0, hI⟩ := HGA.out.row hr
      have HI := Lib.hid hI
      have hc := (World.cell?_of_block (HW.out.block _ (World.block_lt_of_cell? w _ hc0) (by simp))).trans hc0
      clear hr hc0 hI
      go_wp2_with fail
      go_loopw [20] (fun i wr => ∃ k : Nat, k ≤ row.length ∧ i = .int .i64 k ∧ RvRel N G w b q k (q * 1000 + k) wr) (fun i _ => row.length - (intOf i).toNat)
      case atStart => exact ⟨0, Nat.zero_le _, rfl, ⟨vs, H, HO, HH, HSH, HW⟩⟩
      case round =>
        clear HO HH HSH HW hc
        obtain ⟨k, hk, rfl, ⟨vs2, H2, HO, HH, HSH, HW⟩⟩ := hrel
        have hsz := HW.out.size
        by_cases hlt2 : k < row.length
        · have hx := List.getElem?_eq_getElem hlt2
          obtain ⟨bd, rfl, hx9⟩ := HI.out.at_ hlt2
          obtain ⟨j, hxj, hj, _⟩ := HK.out.row q row HR.out _ (List.getElem_mem hlt2)
          rw [hxj] at hx
          clear hx9 hxj
          have hc1 := (HI.out.keep HW.out).cellOf hx
          have HX := Lib.hid hx
          have ht := List.getElem?_eq_getElem (show j < H2.length by rw [HH.out.len]; exact hj)
          generalize H2[j]'_ = rt at ht
          obtain ⟨v, hv, hov⟩ := HO.out.row j rt ht
          obtain ⟨A3, c3, rfl⟩ := hov.slice
          have hc2 := HO.out.cell hv
          have hfr := HO.out.fr j
          have HT := Lib.hid ht
          have HV := Lib.hid hv
          have HOV := Lib.hid hov
          have HBL := Lib.hid (lt_of_heap HO.out.out)
          have HRL := Lib.hid (HSH.out j rt ht)
          have HNE := Lib.hid (hov.ne HO.out.out (by decide))
          clear hx ht hv hov
          go_wp2_with (at_builtin; go_must (refine app_one2 rfl (.tmp 29) (.tmp 31) rfl b (.slice A3 rt.length c3) rt rfl (HOV.out.gr (gr_alloc (grownBy_refl wr none) _)) wr.heap.size (q : Int) (0, 0) rfl (heap_alloc_new wr (.cells #[.int .i64 (q : Int)] 3)) (by have := HRL.out; omega) (by simp; have := HBL.out; omega) ?_; intro v4 w4 ho4 hg4 hb4; obtain ⟨A4, c4, rfl⟩ := OwN.slice ho4.out; have hfr4 : w4.frozen? ⟨b, j, none⟩ = false := (World.frozen?_of_block (hg4.out.block b (by simp; have := HBL.out; omega) HNE.out)).trans ((HO.out.gr (gr_alloc (grownBy_refl wr none) _)).fr j); have hcl4 : w4.cell? ⟨b, j, none⟩ = some (.slice A3 rt.length c3) := (World.cell?_of_block (hg4.out.block b (by simp; have := HBL.out; omega) HNE.out)).trans ((HO.out.gr (gr_alloc (grownBy_refl wr none) _)).cell HV.out)))
          go_roundw
          case rel => exact ⟨k + 1, by omega, by go_num, vs2.set j _, H2.set j (rt ++ [(q : Int)]), by
            have h := (HO.out.gr (gr_alloc (grownBy_refl wr none) (.cells #[.int .i64 (q : Int)] 3))).put HT.out HV.out ho4.out hg4.out (fun k hk => hb4.out k hk)
            refine Lib.hid ?_
            simpa using h, HH.out.put HT.out hlt (RvR.next HR.out HX.out), HSH.out.put HT.out (by omega), gr_own (gr_own (gr_alloc HW.out _) hg4.out (fun k hk => by have := own_is HOV.out k hk; omega)) (gr_setB w4 ⟨b, j, none⟩ _) (fun k hk => by injection hk with hk; have : b = k := hk; omega)⟩
          case measure => simp [intOf]; omega
        · go_wp2_with fail
          go_roundw
          case rel => exact ⟨q + 1, by omega, by go_num, vs2, H2, HO, HH.out.congr (RvR.turn HR.out (by omega)), HSH.out.mono (by omega), HW⟩
          case measure => simp [intOf]; omega
    · obtain rfl : q = N := by omega
      go_wp2_with fail
      go_ret
      refine ⟨b, H, rfl, by omega, by rw [hbb]; exact HO.out.atP, HH.out.congr (fun x y => ?_), HSH.out.mono (by omega), HW.out⟩
      constructor
      · rintro ⟨r, hr, ⟨_, h⟩ | ⟨_, h⟩⟩
        · obtain ⟨z, hz, _, hR⟩ := HK.out.row y r hr _ h
          obtain rfl : z = x := by omega
          exact hR
        · simp at h
      · intro h
        obtain ⟨r, hr, hx⟩ := HK.out.all y x h
        exact ⟨r, hr, .inl ⟨by rw [← HGL.out]; exact (List.getElem?_eq_some_iff.1 hr).1, hx⟩⟩

end Go.Proofs.Ytneehdjaaofjaaa
