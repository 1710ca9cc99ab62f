/- The document's groups, walked: New, Find, Size, Count. -/
import Derived.Test.YteblcmebhfjbnaaZ0
import Derived.Test.YteblcmebhfjbnaaV0
namespace Go.Proofs.Yteblcmebhfjbnaa
open Go.RowKit
theorem wrapN1 (q : Nat) (h : q ≤ 1000000000000) : IntKind.i64.wrap ((q : Int) + 1) = (q : Int) + 1 := IntWalk.i64_in _ (by omega)
set_option maxRecDepth 100000 in
set_option maxHeartbeats 4000000 in
theorem r14_New_any (n : Int) (w : World) :
    Calls Try.prog 11 #[.int .i64 n] w fun e w' => RetInts w none (intsN (List.range (szN n))) e w' := by
  obtain ⟨m, hm⟩ : ∃ m, m = szN n := ⟨_, rfl⟩
  rw [← hm]
  have hmb : m ≤ 100000 := by rw [hm]; unfold szN; split <;> (try split) <;> omega
  have HLT := Lib.hid (fun (q : Nat) => show ((q : Int) < n ∧ (q : Int) < 100000) ↔ q < m from by rw [hm]; unfold szN; split <;> (try split) <;> omega)
  clear hm
  go_enter Try.func11, Try.ntmps11
  go_wp2_with fail
  go_loopw [4, 3] (fun i o wr => ∃ q : Nat, q ≤ m ∧ i = .int .i64 q ∧ wr.ownsRow w.heap.size 3 1 o q (intsV (intsN (List.range q))) ∧ w.grownBy wr none) (fun i _ _ => m - (intOf i).toNat)
  case atStart => exact ⟨0, Nat.zero_le _, rfl, own_nil _ _ _ _, grownBy_refl _ _⟩
  case round =>
    obtain ⟨q, hq, rfl, ho, hg⟩ := hrel
    have HG := Lib.hid hg
    have HO := Lib.hid ho
    have hsz := hg.size
    clear hg ho
    by_cases hlt : q < m
    · obtain ⟨h1, h2⟩ := (HLT.out q).2 hlt
      have HR := Lib.hid (show intsN (List.range (q + 1)) = intsN (List.range q) ++ [(q : Int)] by rw [List.range_succ]; unfold intsN; simp)
      go_wp2_with (at_builtin; go_must (refine app_int rfl (.tmp 14) (.tmp 16) rfl w.heap.size u3 _ (intsN (List.range q)) rfl (HO.out.alloc _) wr.heap.size q _ rfl (heap_alloc_new wr (.cells #[.int .i64 q] 3)) (by omega) (by simp only [World.size_alloc]; omega) ?_; intro v3 w3 ho3 hg3; have HG3 := Lib.hid (gr_own (gr_alloc HG.out _) hg3 (own_is HO.out)); have HO3 := Lib.hid ho3; clear ho3 hg3))
      go_roundw
      case rel => exact ⟨q + 1, hlt, by go_num, by rw [HR.out]; exact HO3.out, HG3.out⟩
      case measure => simp [intOf]; omega
    · obtain rfl : q = m := by omega
      have HX := Lib.hid (show ¬ ((q : Int) < n ∧ (q : Int) < 100000) from fun h => hlt ((HLT.out q).1 h))
      clear hlt
      by_cases h1 : (q : Int) < n
      · have h2 : ¬ (q : Int) < 100000 := fun h => HX.out ⟨h1, h⟩
        go_wp2_with fail
        go_ret
        exact RetInts.own HO.out (Nat.le_refl _) HG.out
      · go_wp2_with fail
        go_ret
        exact RetInts.own HO.out (Nat.le_refl _) HG.out
set_option maxRecDepth 100000 in
set_option maxHeartbeats 4000000 in
theorem r14_Find_any (A : Option Addr) (n c : Nat) (g : List Nat) (i : Int) (w : World) (hA : IntsAt w A n c (intsN g)) :
    Calls Try.prog 15 #[.slice A n c, .int .i64 i] w fun e w' => e = .returned (.int .i64 (findI g i)) ∧ w = w' := by
  have HA := Lib.hid hA
  obtain rfl : n = g.length := by rw [hA.1, intsN_len]
  clear hA
  rcases findI_cases g i with ⟨h, e⟩ | ⟨j, k, rfl, hk, e⟩
  · rw [e]
    by_cases h0 : i < 0
    · go_enter Try.func15, Try.ntmps15
      go_wp2_with fail
      go_ret
      exact ⟨rfl, rfl⟩
    · have h1 : (g.length : Int) ≤ i := by omega
      clear h
      go_enter Try.func15, Try.ntmps15
      go_wp2_with fail
      go_ret
      exact ⟨rfl, rfl⟩
  · rw [e]
    have hj := (List.getElem?_eq_some_iff.1 hk).1
    obtain ⟨ad, rfl, hx9⟩ := HA.out.at_ (show j < (intsN g).length by rw [intsN_len]; exact hj)
    clear hx9
    have hc := HA.out.cellOf (show (intsN g)[j]? = some (k : Int) by rw [intsN_at, hk]; rfl)
    clear hk e
    go_enter Try.func15, Try.ntmps15
    go_wp2_with fail
    go_ret
    exact ⟨rfl, rfl⟩
theorem cntP_le_n (p : Nat → Bool) : ∀ n : Nat, cntP p n ≤ n
  | 0 => Nat.le_refl _
  | n + 1 => by
    have := cntP_le_n p n
    rw [cntP]
    split <;> omega
set_option maxRecDepth 100000 in
set_option maxHeartbeats 4000000 in
theorem r14_Count_any (A : Option Addr) (n c : Nat) (g : List Nat) (w : World) (hA : IntsAt w A n c (intsN g)) (hl : g.length ≤ 1000000) :
    Calls Try.prog 18 #[.slice A n c] w fun e w' => e = .returned (.int .i64 (cntG g)) ∧ w = w' := by
  have HA := Lib.hid hA
  obtain rfl : n = g.length := by rw [hA.1, intsN_len]
  clear hA
  unfold cntG
  go_enter Try.func18, Try.ntmps18
  go_wp2_with fail
  go_loopw [4, 3] (fun i o wr => ∃ q : Nat, q ≤ g.length ∧ i = .int .i64 q ∧ o = .int .i64 (cntP (fun i => decide (g[i]? = some i)) q) ∧ w = wr) (fun i _ _ => g.length - (intOf i).toNat)
  case atStart => exact ⟨0, Nat.zero_le _, rfl, rfl, rfl⟩
  case round =>
    obtain ⟨q, hq, rfl, rfl, rfl⟩ := hrel
    have hcl := cntP_le_n (fun i => decide (g[i]? = some i)) q
    have HN := Lib.hid (show cntP (fun i => decide (g[i]? = some i)) (q + 1) = cntP (fun i => decide (g[i]? = some i)) q + if decide (g[q]? = some q) = true then 1 else 0 from rfl)
    by_cases hlt : q < g.length
    · obtain ⟨ad, rfl, hx9⟩ := HA.out.at_ (show q < (intsN g).length by rw [intsN_len]; exact hlt)
      clear hx9
      have HX := Lib.hid (show g[q]? = some g[q] from List.getElem?_eq_getElem hlt)
      generalize g[q] = k at HX
      have hc := HA.out.cellOf (show (intsN g)[q]? = some (k : Int) by rw [intsN_at, HX.out]; rfl)
      rw [HX.out] at HN
      obtain ⟨t, ht⟩ : ∃ t, t = cntP (fun i => decide (g[i]? = some i)) q := ⟨_, rfl⟩
      rw [← ht] at HN hcl ⊢
      clear ht
      obtain ⟨z, hz⟩ : ∃ z : Int, z = (k : Int) := ⟨_, rfl⟩
      rw [← hz] at hc
      by_cases hkq : k = q
      · have e1 : (z == (q : Int)) = true := by simp [hz, hkq]
        rw [if_pos (by simp [hkq])] at HN
        clear hkq hz
        go_wp2_with fail
        go_roundw
        case rel => exact ⟨q + 1, hlt, by go_num, by rw [HN.out]; go_num, trivial⟩
        case measure => simp [intOf]; omega
      · have e1 : (z == (q : Int)) = false := by simp [hz]; omega
        rw [if_neg (by simp [hkq])] at HN
        clear hkq hz
        go_wp2_with fail
        go_roundw
        case rel => exact ⟨q + 1, hlt, by go_num, by rw [HN.out, Nat.add_zero], trivial⟩
        case measure => simp [intOf]; omega
    · obtain rfl : q = g.length := by omega
      go_wp2_with fail
      go_ret
      exact ⟨rfl, rfl⟩
set_option maxRecDepth 100000 in
set_option maxHeartbeats 4000000 in
theorem r14_Size_any (A : Option Addr) (n c : Nat) (g : List Nat) (i : Int) (w : World) (hA : IntsAt w A n c (intsN g)) (hl : g.length ≤ 1000000) :
    Calls Try.prog 20 #[.slice A n c, .int .i64 i] w fun e w' => e = .returned (.int .i64 (sizI g i)) ∧ w = w' := by
  have HA := Lib.hid hA
  obtain rfl : n = g.length := by rw [hA.1, intsN_len]
  clear hA
  rcases findI_cases g i with ⟨_, e⟩ | ⟨j, k, rfl, hk, e⟩
  · rw [show sizI g i = 0 by unfold sizI; rw [e, if_pos (by omega)]]
    have HE := Lib.hid e
    clear e
    go_enter Try.func20, Try.ntmps20
    go_wp2_with fail
    refine (r14_Find_any A g.length c g i w HA.out).mono ?_
    rintro e w1 ⟨rfl, rfl⟩
    rw [HE.out]
    go_wp2_with fail
    go_loopw [7, 6] (fun i o wr => i = .int .i64 0 ∧ o = .int .i64 0 ∧ w = wr) (fun i _ _ => 0)
    case atStart => exact ⟨rfl, rfl, rfl⟩
    case round =>
      obtain ⟨rfl, rfl, rfl⟩ := hrel
      by_cases hlt : 0 < g.length
      · go_wp2_with fail
        go_ret
        exact ⟨rfl, rfl⟩
      · go_wp2_with fail
        go_ret
        exact ⟨rfl, rfl⟩
  · rw [show sizI g (j : Int) = sizG g k by unfold sizI; rw [e, if_neg (by omega), Int.toNat_natCast]]
    have HE := Lib.hid e
    clear e hk
    unfold sizG
    go_enter Try.func20, Try.ntmps20
    go_wp2_with fail
    refine (r14_Find_any A g.length c g j w HA.out).mono ?_
    rintro e w1 ⟨rfl, rfl⟩
    rw [HE.out]
    go_wp2_with fail
    go_loopw [7, 6] (fun i o wr => ∃ q : Nat, q ≤ g.length ∧ i = .int .i64 q ∧ o = .int .i64 (cntP (fun i => decide (g[i]? = some k)) q) ∧ w = wr) (fun i _ _ => g.length - (intOf i).toNat)
    case atStart => exact ⟨0, Nat.zero_le _, rfl, rfl, rfl⟩
    case round =>
      obtain ⟨q, hq, rfl, rfl, rfl⟩ := hrel
      have hcl := cntP_le_n (fun i => decide (g[i]? = some k)) q
      have HN := Lib.hid (show cntP (fun i => decide (g[i]? = some k)) (q + 1) = cntP (fun i => decide (g[i]? = some k)) q + if decide (g[q]? = some k) = true then 1 else 0 from rfl)
      by_cases hlt : q < g.length
      · obtain ⟨ad, rfl, hx9⟩ := HA.out.at_ (show q < (intsN g).length by rw [intsN_len]; exact hlt)
        clear hx9
        have HX := Lib.hid (show g[q]? = some g[q] from List.getElem?_eq_getElem hlt)
        generalize g[q] = y at HX
        have hc := HA.out.cellOf (show (intsN g)[q]? = some (y : Int) by rw [intsN_at, HX.out]; rfl)
        rw [HX.out] at HN
        obtain ⟨t, ht⟩ : ∃ t, t = cntP (fun i => decide (g[i]? = some k)) q := ⟨_, rfl⟩
        rw [← ht] at HN hcl ⊢
        clear ht
        obtain ⟨z, hz⟩ : ∃ z : Int, z = (y : Int) := ⟨_, rfl⟩
        rw [← hz] at hc
        by_cases hkq : y = k
        · have e1 : (z == (k : Int)) = true := by simp [hz, hkq]
          rw [if_pos (by simp [hkq])] at HN
          clear hkq hz
          go_wp2_with fail
          go_roundw
          case rel => exact ⟨q + 1, hlt, by go_num, by rw [HN.out]; go_num, trivial⟩
          case measure => simp [intOf]; omega
        · have e1 : (z == (k : Int)) = false := by simp [hz]; omega
          rw [if_neg (by simp [hkq])] at HN
          clear hkq hz
          go_wp2_with fail
          go_roundw
          case rel => exact ⟨q + 1, hlt, by go_num, by rw [HN.out, Nat.add_zero], trivial⟩
          case measure => simp [intOf]; omega
      · obtain rfl : q = g.length := by omega
        go_wp2_with fail
        go_ret
        exact ⟨rfl, rfl⟩

end Go.Proofs.Yteblcmebhfjbnaa
