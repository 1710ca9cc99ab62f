/- A number put into a rising list. -/
import Derived.Test.YtpgefmhjhiemkaaZ0
namespace Go.Proofs.Ytpgefmhjhiemkaa
open Go.RowKit
/-- A number put in, if it isn't there. -/
def withI (l : List Int) (x : Int) : List Int := if x ∈ l then l else insI x l
theorem outI_a {x y : Int} {t : List Int} (h : grt x t = false) (hy : x < y) : outI x (t ++ [y]) = t ++ [x] ++ [y] ∧ grt x (t ++ [y]) = true ∧ outI x t = t := by
  have e : grt x (t ++ [y]) = true := by rw [grt_snoc, decide_eq_true hy, Bool.or_true]
  exact ⟨by rw [outI, if_pos e, insI_first h hy]; simp, e, by rw [outI, if_neg (by rw [h]; exact Bool.false_ne_true)]⟩
theorem outI_b {x y : Int} {t : List Int} (h : grt x t = false) (hy : ¬ x < y) : outI x (t ++ [y]) = t ++ [y] ∧ grt x (t ++ [y]) = false ∧ outI x t = t := by
  have e : grt x (t ++ [y]) = false := by rw [grt_snoc, decide_eq_false hy, h]; rfl
  exact ⟨by rw [outI, if_neg (by rw [e]; exact Bool.false_ne_true)], e, by rw [outI, if_neg (by rw [h]; exact Bool.false_ne_true)]⟩
theorem outI_c {x y : Int} {t : List Int} (h : grt x t = true) : outI x (t ++ [y]) = outI x t ++ [y] ∧ grt x (t ++ [y]) = true := by
  have e : grt x (t ++ [y]) = true := by rw [grt_snoc, h, Bool.true_or]
  exact ⟨by rw [outI, if_pos e, insI_some y h, outI, if_pos h], e⟩
/-- The loop of WithInt: what was made of the first q. -/
def WiRel (l : List Int) (x : Int) (w : World) (i d o : Value) (wr : World) : Prop :=
  ∃ q : Nat, q ≤ l.length ∧ i = .int .i64 q ∧ d = .bool (grt x (l.take q)) ∧ x ∉ l.take q ∧ wr.ownsRow w.heap.size 3 1 o (outI x (l.take q)).length (intsV (outI x (l.take q))) ∧ w.grownBy wr none
set_option maxRecDepth 100000 in
set_option maxHeartbeats 4000000 in
theorem WithInt_any (A : Option Addr) (n c : Nat) (l : List Int) (x : Int) (w : World) (hA : IntsAt w A n c l) (hl : l.length ≤ 100000000000) :
    Calls Try.prog 31 #[.slice A n c, .int .i64 x] w fun e w' => RetInts w (if x ∈ l then A else none) (withI l x) e w' := by
  have HA := Lib.hid hA
  obtain rfl : n = l.length := hA.1
  clear hA
  obtain ⟨r, hr⟩ : ∃ r, r = withI l x := ⟨_, rfl⟩
  rw [← hr]
  have HR := Lib.hid hr
  clear hr
  obtain ⟨A0, hA0⟩ : ∃ A0, A0 = if x ∈ l then A else none := ⟨_, rfl⟩
  rw [← hA0]
  have HA0 := Lib.hid hA0
  clear hA0
  go_enter Try.func31, Try.ntmps31
  go_wp2_with fail
  go_loopw [7, 6, 5] (fun i d o wr => WiRel l x w i d o wr) (fun i _ _ _ => l.length - (intOf i).toNat)
  case atStart => exact ⟨0, Nat.zero_le _, rfl, rfl, by simp, own_nil _ _ _ _, grownBy_refl _ _⟩
  case round =>
    obtain ⟨q, hq, rfl, rfl, ht, ho, hg⟩ := hrel
    have HG := Lib.hid hg
    have HT := Lib.hid ht
    have HO := Lib.hid ho
    have hsz := hg.size
    clear hg ht ho
    by_cases hlt : q < l.length
    · obtain ⟨ad, rfl, hc1⟩ := (HA.out.keep HG.out).at_ hlt
      have HX := Lib.hid (show l[q]? = some l[q] from List.getElem?_eq_getElem hlt)
      generalize l[q] = y at hc1 HX
      have HTK := Lib.hid (show l.take (q + 1) = l.take q ++ [y] by rw [List.take_add_one, HX.out]; rfl)
      have hol := outI_len_le x (l.take q)
      rw [List.length_take] at hol
      by_cases hxy : y = x
      · subst hxy
        clear hol
        go_wp2_with fail
        go_ret
        exact ⟨_, _, _, rfl, by rw [HR.out, withI, if_pos (List.mem_of_getElem? HX.out)]; exact HA.out.keep HG.out, HG.out, fun _ _ => .inr (by rw [HA0.out, if_pos (List.mem_of_getElem? HX.out)])⟩
      · have e1 : (y == x) = false := by simpa using hxy
        have HN := Lib.hid (show x ∉ l.take (q + 1) by
          rw [HTK.out]
          intro h
          rcases List.mem_append.1 h with h | h
          · exact HT.out h
          · exact hxy ((show x = y by simpa using h).symm))
        clear hxy HT
        have HC := Lib.hid (fun (W : World) (g : w.grownBy W none) => (HA.out.keep g).cellOf HX.out)
        rcases hgr : grt x (l.take q)
        · by_cases hlt2 : x < y
          · have HO1 := Lib.hid (outI_a hgr hlt2)
            rw [HO1.out.2.2] at HO
            clear hgr
            go_wp2_with (at_builtin; first
              | (refine app_int rfl (.tmp 31) (.tmp 33) rfl w.heap.size u5 _ (l.take q) rfl (HO.out.alloc _) wr.heap.size x _ rfl (heap_alloc_new wr (.cells #[.int .i64 x] 3)) (by rw [List.length_take]; omega) (by simp only [World.size_alloc]; omega) ?_; intro v1 w1 ho1 hg1; have hg2 := gr_own (gr_alloc HG.out _) hg1 (own_is HO.out); have hc2 := HC.out w1 hg2; have hs2 := hg2.size; have HO2 := Lib.hid ho1; have HG2 := Lib.hid hg2; clear ho1 hg1 hg2)
              | (refine app_int rfl (.tmp 35) (.tmp 40) rfl w.heap.size v1 _ (l.take q ++ [x]) rfl (HO2.out.alloc _) w1.heap.size y _ rfl (heap_alloc_new w1 (.cells #[.int .i64 y] 3)) (by rw [List.length_take]; omega) (by simp only [World.size_alloc]; omega) ?_; intro v3 w3 ho3 hg3; have HG3 := Lib.hid (gr_own (gr_alloc HG2.out _) hg3 (own_is HO2.out)); have HO3 := Lib.hid ho3; clear ho3 hg3))
            go_roundw
            case rel => exact ⟨q + 1, by omega, by go_num, by rw [HTK.out, HO1.out.2.1], HN.out, by rw [HTK.out, HO1.out.1]; simpa using HO3.out, HG3.out⟩
            case measure => simp [intOf]; omega
          · have HO1 := Lib.hid (outI_b hgr hlt2)
            rw [HO1.out.2.2] at HO
            clear hgr
            go_wp2_with (at_builtin; go_must (refine app_int rfl (.tmp 35) (.tmp 40) rfl w.heap.size u5 _ (l.take q) rfl (HO.out.alloc _) wr.heap.size y _ rfl (heap_alloc_new wr (.cells #[.int .i64 y] 3)) (by rw [List.length_take]; omega) (by simp only [World.size_alloc]; omega) ?_; intro v3 w3 ho3 hg3; have HG3 := Lib.hid (gr_own (gr_alloc HG.out _) hg3 (own_is HO.out)); have HO3 := Lib.hid ho3; clear ho3 hg3))
            go_roundw
            case rel => exact ⟨q + 1, by omega, by go_num, by rw [HTK.out, HO1.out.2.1], HN.out, by rw [HTK.out, HO1.out.1]; simpa using HO3.out, HG3.out⟩
            case measure => simp [intOf]; omega
        · have HO1 := Lib.hid (outI_c (y := y) hgr)
          clear hgr
          go_wp2_with (at_builtin; go_must (refine app_int rfl (.tmp 35) (.tmp 40) rfl w.heap.size u5 _ (outI x (l.take q)) rfl (HO.out.alloc _) wr.heap.size y _ rfl (heap_alloc_new wr (.cells #[.int .i64 y] 3)) (by omega) (by simp only [World.size_alloc]; omega) ?_; intro v3 w3 ho3 hg3; have HG3 := Lib.hid (gr_own (gr_alloc HG.out _) hg3 (own_is HO.out)); have HO3 := Lib.hid ho3; clear ho3 hg3))
          go_roundw
          case rel => exact ⟨q + 1, by omega, by go_num, by rw [HTK.out, HO1.out.2], HN.out, by rw [HTK.out, HO1.out.1]; simpa using HO3.out, HG3.out⟩
          case measure => simp [intOf]; omega
    · have HE := Lib.hid (show l.take q = l from List.take_of_length_le (by omega))
      rw [HE.out] at HO HT ⊢
      rw [show withI l x = insI x l from if_neg HT.out] at HR
      have hol := outI_len_le x l
      rcases hgr : grt x l
      · have HO1 := Lib.hid (show insI x l = outI x l ++ [x] by have h := outI_end x l; rw [hgr] at h; exact h.symm)
        clear hgr
        go_wp2_with (at_builtin; go_must (refine app_int rfl (.tmp 44) (.tmp 46) rfl w.heap.size u5 _ (outI x l) rfl (HO.out.alloc _) wr.heap.size x _ rfl (heap_alloc_new wr (.cells #[.int .i64 x] 3)) (by omega) (by simp only [World.size_alloc]; omega) ?_; intro v3 w3 ho3 hg3; have HG3 := Lib.hid (gr_own (gr_alloc HG.out _) hg3 (own_is HO.out)); have HO3 := Lib.hid ho3; clear ho3 hg3))
        go_ret
        exact RetInts.own (n := (outI x l).length + 1) (by rw [HR.out, HO1.out]; exact HO3.out) (Nat.le_refl _) HG3.out
      · have HO1 := Lib.hid (show insI x l = outI x l by have h := outI_end x l; rw [hgr] at h; exact h.symm)
        clear hgr
        go_wp2_with fail
        go_ret
        exact RetInts.own (n := (outI x l).length) (by rw [HR.out, HO1.out]; exact HO.out) (Nat.le_refl _) HG.out

end Go.Proofs.Ytpgefmhjhiemkaa
