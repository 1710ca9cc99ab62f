/- The document's sets, walked: Of, Union, Minus. -/
import Derived.Test.YtpgefmhjhiemkaaZ1
import Derived.Test.YtpgefmhjhiemkaaY4
namespace Go.Proofs.Ytpgefmhjhiemkaa
open Go.RowKit
/-- A list in memory, new since w or that of A0. -/
def LsOf (w : World) (A0 : Option Addr) (l0 l : List Int) (v : Value) (W : World) : Prop := ∃ A n c, v = .slice A n c ∧ IntsAt W A n c l ∧ ∀ ad, A = some ad → w.heap.size ≤ ad.block ∨ (A = A0 ∧ l = l0)
set_option maxRecDepth 100000 in
set_option maxHeartbeats 4000000 in
theorem r13_Of_any (A : Option Addr) (n c : Nat) (l : List Int) (w : World) (hA : IntsAt w A n c l) (hl : l.length ≤ 100000000000) :
    Calls Try.prog 22 #[.slice A n c] w fun e w' => RetInts w none (addsI [] l) e w' := by
  have HA := Lib.hid hA
  obtain rfl : n = l.length := hA.1
  clear hA
  go_enter Try.func22, Try.ntmps22
  go_wp2_with fail
  go_loopw [4, 3] (fun i o wr => ∃ q : Nat, q ≤ l.length ∧ i = .int .i64 q ∧ LsOf w none [] (addsI [] (l.take q)) o wr ∧ w.grownBy wr none) (fun i _ _ => l.length - (intOf i).toNat)
  case atStart => exact ⟨0, Nat.zero_le _, rfl, ⟨_, _, _, rfl, IntsAt.nil _, fun _ h => by cases h⟩, grownBy_refl _ _⟩
  case round =>
    obtain ⟨q, hq, rfl, ⟨B, m, d, rfl, hI, hB⟩, hg⟩ := hrel
    have HG := Lib.hid hg
    have HI := Lib.hid hI
    have HB := Lib.hid hB
    clear hg hI hB
    by_cases hlt : q < l.length
    · obtain ⟨ad, rfl, hc1⟩ := (HA.out.keep HG.out).at_ hlt
      have HX := Lib.hid (show l[q]? = some l[q] from List.getElem?_eq_getElem hlt)
      generalize l[q] = y at hc1 HX
      have HTK := Lib.hid (show l.take (q + 1) = l.take q ++ [y] by rw [List.take_add_one, HX.out]; rfl)
      have hol := addsI_len_le (l.take q) []
      rw [List.length_take, List.length_nil] at hol
      go_wp2_with fail
      refine (r13_Add_any B m d _ y wr HI.out (by omega)).mono ?_
      rintro e w1 ⟨B', m', d', rfl, hI', hg, hB'⟩
      have HI' := Lib.hid (show IntsAt w1 B' m' d' (addsI [] (l.take (q + 1))) by rw [HTK.out, addsI_snoc]; exact hI')
      have HG' := Lib.hid (grownBy_trans HG.out hg)
      have HB' := Lib.hid (show ∀ ad, B' = some ad → w.heap.size ≤ ad.block ∨ (B' = none ∧ addsI [] (l.take (q + 1)) = []) from fun ad e => (hB' ad e).elim (fun h => .inl (Nat.le_trans HG.out.size h)) fun h => HB.out ad (h.1 ▸ e) |>.elim .inl fun h' => absurd (h.1.trans h'.1) (by rw [e]; simp))
      clear hI' hg hB' hol
      go_wp2_with fail
      go_roundw
      case rel => exact ⟨q + 1, by omega, by go_num, ⟨_, _, _, rfl, HI'.out, HB'.out⟩, HG'.out⟩
      case measure => simp [intOf]; omega
    · have HE := Lib.hid (show l.take q = l from List.take_of_length_le (by omega))
      rw [HE.out] at HI
      go_wp2_with fail
      go_ret
      exact ⟨B, m, d, rfl, HI.out, HG.out, fun ad e => (HB.out ad e).imp id And.left⟩
set_option maxRecDepth 100000 in
set_option maxHeartbeats 4000000 in
theorem r13_Union_any (A B : Option Addr) (n c m d : Nat) (E D : List Int) (w : World) (hA : IntsAt w A n c E) (hB : IntsAt w B m d D) (hE : E.length ≤ 10000000000) (hD : D.length ≤ 10000000000) :
    Calls Try.prog 25 #[.slice A n c, .slice B m d] w fun e w' => ∃ C k j, e = .returned (.tuple #[.slice C k j, .bool (newsI E D)]) ∧ IntsAt w' C k j (addsI E D) ∧ w.grownBy w' none ∧ ∀ ad, C = some ad → w.heap.size ≤ ad.block ∨ (C = A ∧ addsI E D = E) := by
  have HA := Lib.hid hA
  have HD := Lib.hid hB
  obtain rfl : m = D.length := hB.1
  clear hA hB
  obtain ⟨r, hr⟩ : ∃ r, r = unionD E D := ⟨_, rfl⟩
  have hr1 := hr.trans (unionD_is E D)
  rw [show addsI E D = r.1 by rw [hr1], show newsI E D = r.2 by rw [hr1]]
  have HR := Lib.hid hr
  clear hr hr1
  go_enter Try.func25, Try.ntmps25
  go_wp2_with fail
  go_loopw [7, 0, 6] (fun i o b wr => ∃ q : Nat, q ≤ D.length ∧ i = .int .i64 q ∧ LsOf w A E (unionD E (D.take q)).1 o wr ∧ b = .bool (unionD E (D.take q)).2 ∧ w.grownBy wr none) (fun i _ _ _ => D.length - (intOf i).toNat)
  case atStart => exact ⟨0, Nat.zero_le _, rfl, ⟨_, _, _, rfl, HA.out, fun _ _ => .inr ⟨rfl, rfl⟩⟩, rfl, grownBy_refl _ _⟩
  case round =>
    obtain ⟨q, hq, rfl, ⟨C, k, j, rfl, hI, hC⟩, rfl, hg⟩ := hrel
    have HG := Lib.hid hg
    have HI := Lib.hid hI
    have HC := Lib.hid hC
    clear hg hI hC
    by_cases hlt : q < D.length
    · obtain ⟨bd, rfl, hc1⟩ := (HD.out.keep HG.out).at_ hlt
      have HX := Lib.hid (show D[q]? = some D[q] from List.getElem?_eq_getElem hlt)
      generalize D[q] = y at hc1 HX
      have HTK := Lib.hid (show unionD E (D.take (q + 1)) = ((addI13 (unionD E (D.take q)).1 y).1, (unionD E (D.take q)).2 || (addI13 (unionD E (D.take q)).1 y).2) by rw [List.take_add_one, HX.out]; exact unionD_snoc _ _ _)
      have hol : (unionD E (D.take q)).1.length ≤ E.length + q := by
        rw [unionD_is]
        have := addsI_len_le (D.take q) E
        rw [List.length_take] at this
        show (addsI E (D.take q)).length ≤ _
        omega
      generalize unionD E (D.take q) = p at *
      obtain ⟨pl, pb⟩ := p
      dsimp only at *
      go_wp2_with fail
      refine (r13_Add_any C k j pl y wr HI.out (by omega)).mono ?_
      rintro e w1 ⟨C', k', j', rfl, hI', hg, hC'⟩
      generalize addI13 pl y = p2 at *
      obtain ⟨ql, qb⟩ := p2
      dsimp only at *
      have HI' := Lib.hid hI'
      have HG' := Lib.hid (grownBy_trans HG.out hg)
      have HC' := Lib.hid (show ∀ ad, C' = some ad → w.heap.size ≤ ad.block ∨ (C' = A ∧ ql = E) from fun ad e => (hC' ad e).elim (fun h => .inl (Nat.le_trans HG.out.size h)) fun h => HC.out ad (h.1 ▸ e) |>.elim .inl fun h' => .inr ⟨h.1.trans h'.1, h.2.trans h'.2⟩)
      clear hI' hg hC' hol
      cases pb
      all_goals
        go_wp2_with fail
        go_roundw
        case rel => exact ⟨q + 1, by omega, by go_num, by rw [HTK.out]; exact ⟨_, _, _, rfl, HI'.out, HC'.out⟩, by rw [HTK.out]; rfl, HG'.out⟩
        case measure => simp [intOf]; omega
    · have HE := Lib.hid (show D.take q = D from List.take_of_length_le (by omega))
      rw [HE.out, ← HR.out] at HI HC ⊢
      go_wp2_with fail
      go_ret2
      exact ⟨C, k, j, rfl, HI.out, HG.out, HC.out⟩
set_option maxRecDepth 100000 in
set_option maxHeartbeats 4000000 in
theorem r13_Minus_any (A B : Option Addr) (n c m d : Nat) (E D : List Int) (w : World) (hA : IntsAt w A n c E) (hB : IntsAt w B m d D) (hE : E.length ≤ 100000000000) (hD : D.length ≤ 100000000000) :
    Calls Try.prog 26 #[.slice A n c, .slice B m d] w fun e w' => RetInts w none (minusI E D) e w' := by
  have HA := Lib.hid hA
  have HD := Lib.hid hB
  obtain rfl : n = E.length := hA.1
  clear hA hB
  go_enter Try.func26, Try.ntmps26
  go_wp2_with fail
  go_loopw [6, 5] (fun i o wr => ∃ q : Nat, q ≤ E.length ∧ i = .int .i64 q ∧ wr.ownsRow w.heap.size 3 1 o (minusI (E.take q) D).length (intsV (minusI (E.take q) D)) ∧ w.grownBy wr none) (fun i _ _ => E.length - (intOf i).toNat)
  case atStart => exact ⟨0, Nat.zero_le _, rfl, own_nil _ _ _ _, grownBy_refl _ _⟩
  case round =>
    obtain ⟨q, hq, rfl, ho, hg⟩ := hrel
    have HG := Lib.hid hg
    have HO := Lib.hid ho
    clear hg ho
    by_cases hlt : q < E.length
    · obtain ⟨ad, rfl, hc1⟩ := (HA.out.keep HG.out).at_ hlt
      have HX := Lib.hid (show E[q]? = some E[q] from List.getElem?_eq_getElem hlt)
      generalize E[q] = y at hc1 HX
      have HC := Lib.hid (fun (W : World) (g : w.grownBy W none) => (HA.out.keep g).cellOf HX.out)
      have HTK := Lib.hid (show minusI (E.take (q + 1)) D = minusI (E.take q) D ++ if y ∈ D then [] else [y] by
        rw [List.take_add_one, HX.out]
        unfold minusI
        rw [List.filter_append]
        by_cases hy : y ∈ D <;> simp [hy])
      have hol := minusI_len_le (E.take q) D
      rw [List.length_take] at hol
      go_wp2_with fail
      refine (r13_Has_any B m d D y wr (HD.out.keep HG.out) (by omega)).mono ?_
      rintro e w1 ⟨rfl, hg⟩
      have HO1 := Lib.hid (own_gr HO.out hg)
      have HG1 := Lib.hid (grownBy_trans HG.out hg)
      have hs1 := HG1.out.size
      have hc2 := HC.out _ HG1.out
      clear hg hc1
      by_cases hy : y ∈ D
      · rw [if_pos hy, List.append_nil] at HTK
        rw [decide_eq_true hy]
        clear hy
        go_wp2_with fail
        go_roundw
        case rel => exact ⟨q + 1, by omega, by go_num, by rw [HTK.out]; exact HO1.out, HG1.out⟩
        case measure => simp [intOf]; omega
      · rw [if_neg hy] at HTK
        rw [decide_eq_false hy]
        clear hy
        go_wp2_with (at_builtin; go_must (refine app_int rfl (.tmp 20) (.tmp 25) rfl w.heap.size u5 _ (minusI (E.take q) D) rfl (HO1.out.alloc _) w1.heap.size y _ rfl (heap_alloc_new w1 (.cells #[.int .i64 y] 3)) (by omega) (by simp only [World.size_alloc]; omega) ?_; intro v3 w3 ho3 hg3; have HG3 := Lib.hid (gr_own (gr_alloc HG1.out _) hg3 (own_is HO1.out)); have HO3 := Lib.hid ho3; clear ho3 hg3))
        go_roundw
        case rel => exact ⟨q + 1, by omega, by go_num, by rw [HTK.out]; simpa using HO3.out, HG3.out⟩
        case measure => simp [intOf]; omega
    · have HE := Lib.hid (show E.take q = E from List.take_of_length_le (by omega))
      rw [HE.out] at HO
      go_wp2_with fail
      go_ret
      exact RetInts.own HO.out (Nat.le_refl _) HG.out

end Go.Proofs.Ytpgefmhjhiemkaa
