/- The document's groups, walked: Join. -/
import Derived.Test.YteblcmebhfjbnaaV1
import Derived.Deep.DeepCutAuto
namespace Go.Proofs.Yteblcmebhfjbnaa
open Go.RowKit
/-- The first q labels made new. -/
def partG (x y : Nat) (g : List Nat) (q : Nat) : List Nat := (relab x y g).take q ++ g.drop q
theorem partG_len {x y : Nat} {g : List Nat} {q : Nat} (h : q ≤ g.length) : (partG x y g q).length = g.length := by
  unfold partG
  rw [List.length_append, List.length_take, List.length_drop, relab_len]
  omega
theorem partG_first (x y : Nat) (g : List Nat) : partG x y g 0 = g := by unfold partG; simp
theorem partG_last (x y : Nat) (g : List Nat) : partG x y g g.length = relab x y g := by
  unfold partG
  rw [List.take_of_length_le (by rw [relab_len]; exact Nat.le_refl _), List.drop_eq_nil_of_le (Nat.le_refl _), List.append_nil]
theorem partG_at {x y : Nat} {g : List Nat} {q k : Nat} (h : g[q]? = some k) : (partG x y g q)[q]? = some k := by
  have hq := (List.getElem?_eq_some_iff.1 h).1
  unfold partG
  rw [List.getElem?_append_right (by rw [List.length_take, relab_len]; omega), List.length_take, relab_len, List.getElem?_drop, show q + (q - min q g.length) = q by omega, h]
theorem partG_next {x y : Nat} {g : List Nat} {q k : Nat} (h : g[q]? = some k) : partG x y g (q + 1) = (partG x y g q).set q (if k = y then x else k) := by
  have hq := (List.getElem?_eq_some_iff.1 h).1
  have hr : (relab x y g)[q]? = some (if k = y then x else k) := by rw [relab_at, h]; rfl
  generalize (if k = y then x else k) = z at hr ⊢
  unfold partG
  have hl : ((relab x y g).take q).length = q := by rw [List.length_take, relab_len]; omega
  rw [List.take_add_one, hr, List.set_append, if_neg (by omega), hl, Nat.sub_self, List.drop_eq_getElem_cons hq, List.set_cons_zero, List.append_assoc]
  rfl
theorem intsN_set (g : List Nat) (q z : Nat) : intsV (intsN (g.set q z)) = (intsV (intsN g)).set q (.int .i64 z) := by
  unfold intsV intsN
  rw [List.map_set, List.map_set]
theorem set_self {α : Type} {l : List α} {q : Nat} {k : α} (h : l[q]? = some k) : l.set q k = l := by
  obtain ⟨h1, h2⟩ := List.getElem?_eq_some_iff.1 h
  rw [← h2, List.set_getElem_self]
set_option maxRecDepth 100000 in
set_option maxHeartbeats 4000000 in
theorem r14_Join_any (A : Option Addr) (n c : Nat) (g : List Nat) (a b : Int) (w : World) (hA : IntsAt w A n c (intsN g)) (hl : g.length ≤ 1000000) :
    Calls Try.prog 12 #[.slice A n c, .int .i64 a, .int .i64 b] w fun e w' => ∃ B m d, e = .returned (.tuple #[.slice B m d, .bool (joinG g a b).2]) ∧ IntsAt w' B m d (intsN (joinG g a b).1) ∧ w.grownBy w' none ∧ ∀ ad, B = some ad → w.heap.size ≤ ad.block ∨ (B = A ∧ (joinG g a b).1 = g) := by
  have HA := Lib.hid hA
  obtain rfl : n = g.length := by rw [hA.1, intsN_len]
  clear hA
  by_cases hno : findI g a < 0 ∨ findI g b < 0 ∨ findI g a = findI g b
  · have HJ := Lib.hid (show joinG g a b = (g, false) from if_pos hno)
    rw [HJ.out]
    clear HJ
    obtain ⟨x, hx⟩ : ∃ x, x = findI g a := ⟨_, rfl⟩
    obtain ⟨y, hy⟩ : ∃ y, y = findI g b := ⟨_, rfl⟩
    rw [← hx, ← hy] at hno
    have HX := Lib.hid hx.symm
    have HY := Lib.hid hy.symm
    clear hx hy
    go_enter Try.func12, Try.ntmps12
    go_wp2_with fail
    refine (r14_Find_any A g.length c g a w HA.out).mono ?_
    rintro e w1 ⟨rfl, rfl⟩
    rw [HX.out]
    go_wp2_with fail
    refine (r14_Find_any A g.length c g b w HA.out).mono ?_
    rintro e w1 ⟨rfl, rfl⟩
    rw [HY.out]
    by_cases h1 : x < 0
    · clear hno
      go_wp2_with fail
      go_ret2
      exact ⟨_, _, _, rfl, HA.out, grownBy_refl _ _, fun _ _ => .inr ⟨rfl, trivial⟩⟩
    by_cases h2 : y < 0
    · clear hno
      go_wp2_with fail
      go_ret2
      exact ⟨_, _, _, rfl, HA.out, grownBy_refl _ _, fun _ _ => .inr ⟨rfl, trivial⟩⟩
    obtain rfl : x = y := by omega
    clear hno
    go_wp2_with fail
    go_ret2
    exact ⟨_, _, _, rfl, HA.out, grownBy_refl _ _, fun _ _ => .inr ⟨rfl, trivial⟩⟩
  · have HJ := Lib.hid (show joinG g a b = (relab (min (findI g a).toNat (findI g b).toNat) (max (findI g a).toNat (findI g b).toNat) g, true) from if_neg hno)
    rw [HJ.out]
    clear HJ
    obtain ⟨x, hx⟩ : ∃ x : Nat, findI g a = x := ⟨(findI g a).toNat, by omega⟩
    obtain ⟨y, hy⟩ : ∃ y : Nat, findI g b = y := ⟨(findI g b).toNat, by omega⟩
    rw [hx, hy, Int.toNat_natCast, Int.toNat_natCast]
    rw [hx, hy] at hno
    have HX := Lib.hid hx
    have HY := Lib.hid hy
    obtain ⟨X, Y, hXY, hm⟩ : ∃ X Y : Nat, X < Y ∧ ((x = X ∧ y = Y) ∨ (x = Y ∧ y = X)) := by
      rcases Nat.lt_or_ge x y with h | h
      · exact ⟨x, y, h, .inl ⟨rfl, rfl⟩⟩
      · exact ⟨y, x, by omega, .inr ⟨rfl, rfl⟩⟩
    have hgl : 0 < g.length := by
      rcases findI_cases g a with ⟨_, e⟩ | ⟨j, k, _, hk, _⟩
      · omega
      · have := (List.getElem?_eq_some_iff.1 hk).1; omega
    have hmm : min x y = X ∧ max x y = Y := by omega
    rw [hmm.1, hmm.2]
    obtain ⟨ad, rfl, hx9⟩ := HA.out.at_ (show 0 < (intsN g).length by rw [intsN_len]; exact hgl)
    clear hx9 hx hy hno hmm
    have HXY := Lib.hid hXY
    have he0 : ((X : Int) == (Y : Int)) = false := by simp; omega
    have he1 : ((Y : Int) == (X : Int)) = false := by simp; omega
    rcases hm with ⟨rfl, rfl⟩ | ⟨rfl, rfl⟩
    all_goals
      go_enter Try.func12, Try.ntmps12
      go_wp2_with fail
      refine (r14_Find_any _ g.length c g a w HA.out).mono ?_
      rintro e w1 ⟨rfl, rfl⟩
      rw [HX.out]
      go_wp2_with fail
      refine (r14_Find_any _ g.length c g b w HA.out).mono ?_
      rintro e w1 ⟨rfl, rfl⟩
      rw [HY.out]
      obtain ⟨i0, hi, hz0, hz1, hz2⟩ := info_parts infoInt
      go_wp2_with (at_builtin; go_must (refine wpList_append_own _ rfl (.tmp 37) (.tmp 38) 26 rfl w.heap.size 3 i0 _ 1 8 Try.underlying26 hi hz0 hz1 hz2 rfl (by decide) (.slice (some ⟨w.heap.size, 0, none⟩) 0 0) 0 [] rfl ⟨rfl, .inr ⟨w.heap.size, 0, _, rfl, Nat.le_refl _, heap_alloc_new w (.cells #[] 3), Nat.le_refl _, by unfold maxLen; omega, rfl, rfl⟩⟩ ad g.length c (intsV (intsN g)) rfl (by rw [intsV_length, intsN_len, Nat.mul_one]) (by
        intro j u hu
        simp only [intsV, List.getElem?_map, Option.map_eq_some_iff] at hu
        obtain ⟨z, hz, rfl⟩ := hu
        exact (HA.out.keep (gr_alloc (grownBy_refl _ _) _)).cellOf hz) (intsV_one _) (by unfold maxLen; omega) (by omega) (by simp) ?_; intro v1 w1 ho1 hg1 _; replace ho1 : w1.ownsRow w.heap.size 3 1 v1 g.length (intsV (intsN g)) := (by simpa using ho1); obtain ⟨r, cc, rfl, hr1, hr2⟩ := own_some ho1 hgl; have HO1 := Lib.hid ho1; have HG1 := Lib.hid (gr_own (gr_alloc (grownBy_refl w none) _) hg1 (fun k hk => by injection hk with hk; exact Nat.le_of_eq hk)); clear ho1 hg1 hi hz0 hz1 hz2))
      clear he0 he1
      skip
    · skip
      go_loopw [12] (fun i wr => ∃ q : Nat, q ≤ g.length ∧ i = .int .i64 q ∧ wr.ownsRow w.heap.size 3 1 (.slice (some ⟨r, 0, none⟩) g.length cc) g.length (intsV (intsN (partG x y g q))) ∧ w.grownBy wr none) (fun i _ => g.length - (intOf i).toNat)
      case atStart => exact ⟨0, Nat.zero_le _, rfl, by rw [partG_first]; exact HO1.out, HG1.out⟩
      case round =>
        obtain ⟨q, hq, rfl, ho, hg⟩ := hrel
        have HO := Lib.hid ho
        have HG := Lib.hid hg
        clear ho hg
        by_cases hlt : q < g.length
        · have HK := Lib.hid (show g[q]? = some g[q] from List.getElem?_eq_getElem hlt)
          generalize g[q] = k at HK
          have hc := HO.out.cellAt q (by omega)
          rw [show (intsV (intsN (partG x y g q)))[q]? = some (.int .i64 (k : Int)) by simp [intsV, intsN, partG_at HK.out]] at hc
          have hfr := HO.out.frozenAt q
          have HN := Lib.hid (partG_next (x := x) (y := y) HK.out)
          obtain ⟨z, hz⟩ : ∃ z : Int, z = (k : Int) := ⟨_, rfl⟩
          rw [← hz] at hc
          by_cases hk : k = y
          · have e1 : (z == (y : Int)) = true := by simp [hz, hk]
            rw [if_pos hk] at HN
            clear hk hz
            go_wp2_with fail
            go_roundw
            case rel => exact ⟨q + 1, hlt, by go_num, by rw [HN.out, intsN_set]; exact (HO.out.stored q _).1, gr_own HG.out (HO.out.stored q _).2 (fun k hk => by injection hk with hk; omega)⟩
            case measure => simp [intOf]; omega
          · have e1 : (z == (y : Int)) = false := by simp [hz]; omega
            rw [if_neg hk, set_self (partG_at HK.out)] at HN
            clear hk hz
            go_wp2_with fail
            go_roundw
            case rel => exact ⟨q + 1, hlt, by go_num, by rw [HN.out]; exact HO.out, HG.out⟩
            case measure => simp [intOf]; omega
        · obtain rfl : q = g.length := by omega
          rw [partG_last] at HO
          go_wp2_with fail
          go_ret2
          obtain ⟨A', c', e, hI, hA'⟩ := IntsAt.of_own HO.out
          injection e with e1 e2 e3
          subst e1 e3
          exact ⟨_, _, _, rfl, hI, HG.out, fun ad e => .inl (hA' ad e)⟩
    · skip
      go_loopw [12] (fun i wr => ∃ q : Nat, q ≤ g.length ∧ i = .int .i64 q ∧ wr.ownsRow w.heap.size 3 1 (.slice (some ⟨r, 0, none⟩) g.length cc) g.length (intsV (intsN (partG y x g q))) ∧ w.grownBy wr none) (fun i _ => g.length - (intOf i).toNat)
      case atStart => exact ⟨0, Nat.zero_le _, rfl, by rw [partG_first]; exact HO1.out, HG1.out⟩
      case round =>
        obtain ⟨q, hq, rfl, ho, hg⟩ := hrel
        have HO := Lib.hid ho
        have HG := Lib.hid hg
        clear ho hg
        by_cases hlt : q < g.length
        · have HK := Lib.hid (show g[q]? = some g[q] from List.getElem?_eq_getElem hlt)
          generalize g[q] = k at HK
          have hc := HO.out.cellAt q (by omega)
          rw [show (intsV (intsN (partG y x g q)))[q]? = some (.int .i64 (k : Int)) by simp [intsV, intsN, partG_at HK.out]] at hc
          have hfr := HO.out.frozenAt q
          have HN := Lib.hid (partG_next (x := y) (y := x) HK.out)
          obtain ⟨z, hz⟩ : ∃ z : Int, z = (k : Int) := ⟨_, rfl⟩
          rw [← hz] at hc
          by_cases hk : k = x
          · have e1 : (z == (x : Int)) = true := by simp [hz, hk]
            rw [if_pos hk] at HN
            clear hk hz
            go_wp2_with fail
            go_roundw
            case rel => exact ⟨q + 1, hlt, by go_num, by rw [HN.out, intsN_set]; exact (HO.out.stored q _).1, gr_own HG.out (HO.out.stored q _).2 (fun k hk => by injection hk with hk; omega)⟩
            case measure => simp [intOf]; omega
          · have e1 : (z == (x : Int)) = false := by simp [hz]; omega
            rw [if_neg hk, set_self (partG_at HK.out)] at HN
            clear hk hz
            go_wp2_with fail
            go_roundw
            case rel => exact ⟨q + 1, hlt, by go_num, by rw [HN.out]; exact HO.out, HG.out⟩
            case measure => simp [intOf]; omega
        · obtain rfl : q = g.length := by omega
          rw [partG_last] at HO
          go_wp2_with fail
          go_ret2
          obtain ⟨A', c', e, hI, hA'⟩ := IntsAt.of_own HO.out
          injection e with e1 e2 e3
          subst e1 e3
          exact ⟨_, _, _, rfl, hI, HG.out, fun ad e => .inl (hA' ad e)⟩

end Go.Proofs.Yteblcmebhfjbnaa
