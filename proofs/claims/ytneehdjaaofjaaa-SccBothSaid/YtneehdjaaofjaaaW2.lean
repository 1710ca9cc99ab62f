/- The document's graphs, walked: Reach. -/
import Derived.Test.YtneehdjaaofjaaaW1
namespace Go.Proofs.Ytneehdjaaofjaaa
open Go.RowKit
/-- The first q numbers that are marked. -/
def mq (M : List Bool) (q : Nat) : List Int := ((List.range q).filter fun v => decide (mk M v)).map fun (v : Nat) => (v : Int)
theorem mq_succ (M : List Bool) (q : Nat) : mq M (q + 1) = mq M q ++ if mk M q then [(q : Int)] else [] := by
  unfold mq
  rw [List.range_succ, List.filter_append, List.map_append]
  by_cases h : mk M q <;> simp [h]
theorem mq_len (M : List Bool) (q : Nat) : (mq M q).length ≤ q := by
  unfold mq
  rw [List.length_map]
  have := List.length_filter_le (fun v => decide (mk M v)) (List.range q)
  rw [List.length_range] at this
  exact this
theorem mq_all {M : List Bool} {N : Nat} (h : M.length = N) : mq M N = marked M := by unfold mq marked; rw [h]
/-- What the numbers of F mark. -/
def MkF (N : Nat) (F : List Int) (M : List Bool) : Prop := M.length = N ∧ ∀ b, mk M b ↔ b < N ∧ (b : Int) ∈ F
theorem MkF.first (N : Nat) : MkF N [] (List.replicate N false) := ⟨List.length_replicate, fun b => ⟨fun h => by
  unfold mk at h
  rw [List.getElem?_replicate] at h
  split at h
  · injection h with h; cases h
  · (cases h), fun h => absurd h.2 (by simp)⟩⟩
theorem MkF.next {N : Nat} {F : List Int} {M : List Bool} (h : MkF N F M) {a : Nat} (ha : a < N) : MkF N (F ++ [(a : Int)]) (M.set a true) := ⟨by rw [List.length_set]; exact h.1, fun b => by
  rw [mk_set (by rw [h.1]; exact ha), h.2]
  simp only [List.mem_append, List.mem_singleton]
  constructor
  · rintro (rfl | ⟨h1, h2⟩)
    · exact ⟨ha, .inr rfl⟩
    · exact ⟨h1, .inl h2⟩
  · rintro ⟨h1, h2 | h2⟩
    · exact .inr ⟨h1, h2⟩
    · exact .inl (by omega)⟩
theorem MkF.skip {N : Nat} {F : List Int} {M : List Bool} (h : MkF N F M) {x : Int} (hx : ¬ (0 ≤ x ∧ x < (N : Int))) : MkF N (F ++ [x]) M := ⟨h.1, fun b => by
  rw [h.2]
  simp only [List.mem_append, List.mem_singleton]
  constructor
  · rintro ⟨h1, h2⟩
    exact ⟨h1, .inl h2⟩
  · rintro ⟨h1, h2 | h2⟩
    · exact ⟨h1, h2⟩
    · exfalso; omega⟩
theorem MkF.re {N : Nat} {ps : List (Nat × Nat)} {F : List Int} {M0 M : List Bool} (h : MkF N F M0) (k : IsCl ps M0 M) : IsRe N ps F (marked M) := ⟨marked_rise M, fun x => by
  rw [marked_mem]
  constructor
  · rintro ⟨b, hb, rfl⟩
    obtain ⟨a, ha, hl⟩ := (k.2 b).1 hb
    obtain ⟨h1, h2⟩ := (h.2 a).1 ha
    exact ⟨a, b, h2, h1, hl, rfl⟩
  · rintro ⟨a, b, h1, h2, hl, rfl⟩
    exact ⟨b, (k.2 b).2 ⟨a, (h.2 a).2 ⟨h2, h1⟩, hl⟩, rfl⟩⟩
set_option maxRecDepth 100000 in
set_option maxHeartbeats 8000000 in
theorem r15_Reach_any (n : Int) (A B : Option Addr) (c0 k d : Nat) (E : List Edg) (F : List Int) (w : World) (hE : EdsAt w A E) (hB : IntsAt w B k d F) (hEl : E.length ≤ 1000000) (hFl : F.length ≤ 9223372036854775807) :
    Calls Try.prog 17 #[.int .i64 n, .slice A E.length c0, .slice B k d] w fun e w' => ∃ R, IsRe (szE n) (prs (szE n) E) F R ∧ RetInts w none R e w' := by
  have HE := Lib.hid hE
  have HB := Lib.hid hB
  obtain rfl : k = F.length := hB.1
  clear hE hB
  obtain ⟨N, hNN⟩ : ∃ N, N = szE n := ⟨_, rfl⟩
  have hN : N ≤ 20000 := by rw [hNN]; exact szE_le n
  rw [← hNN]
  have HNN := Lib.hid hNN
  clear hNN
  obtain ⟨i0, hi, hz0, hz1, hz2⟩ := info_parts infoBool
  go_enter Try.func17, Try.ntmps17
  go_wp2_with fail
  refine (r15_size_any n w).mono ?_
  rintro e w0 ⟨rfl, rfl⟩
  rw [← HNN.out]
  go_wp2_with (at_make; go_must (refine wpList_make_full _ rfl (.tmp 13) (.tmp 13) 43 rfl w.heap.size 4 i0 _ 1 Try.underlying43 hi hz0 hz1 .i64 .i64 (N : Int) (N : Int) N rfl rfl rfl rfl (by rw [hz2]; omega) (by unfold maxLen; omega) (Nat.le_refl _) ?_; intro w1 ho1 hg1; have HM1 := Lib.hid (MkAt.first ho1); have HG1 := Lib.hid hg1; clear ho1 hg1 hi hz0 hz1 hz2))
  go_loopw [8] (fun i wr => ∃ (q : Nat) (M : List Bool), q ≤ F.length ∧ i = .int .i64 q ∧ Hid (MkF N (F.take q) M) ∧ Hid (MkAt w.heap.size wr w.heap.size N M) ∧ Hid (w.grownBy wr none)) (fun i _ => F.length - (intOf i).toNat)
  case atStart => exact ⟨0, _, Nat.zero_le _, rfl, MkF.first N, HM1, HG1⟩
  case round =>
    obtain ⟨q, M, hq, rfl, HF, HM, HG⟩ := hrel
    by_cases hlt : q < F.length
    · have HX := Lib.hid (show F[q]? = some F[q] from List.getElem?_eq_getElem hlt)
      obtain ⟨bd, rfl, hx9⟩ := HB.out.at_ hlt
      clear hx9
      generalize F[q] = x at HX
      have hc1 := (HB.out.keep HG.out).cellOf HX.out
      have HTK := Lib.hid (show F.take (q + 1) = F.take q ++ [x] by rw [List.take_add_one, HX.out]; rfl)
      by_cases h1 : 0 ≤ x
      · by_cases h2 : x < (N : Int)
        · obtain ⟨a, rfl⟩ : ∃ a : Nat, x = a := ⟨x.toNat, by omega⟩
          have ha : a < N := by omega
          have HAL := Lib.hid (show a < M.length by rw [HF.out.1]; exact ha)
          have HNX := Lib.hid (HF.out.next ha)
          have hcell := HM.out.cell (show M[a]? = some (M[a]'HAL.out) from List.getElem?_eq_getElem HAL.out)
          generalize M[a]'HAL.out = b0 at hcell
          have hfr := HM.out.fr a
          have HST := Lib.hid (HM.out.set a true)
          go_wp2_with fail
          go_roundw
          case rel => exact ⟨q + 1, M.set a true, by omega, by go_num, by rw [HTK.out]; exact HNX, HST.out.1, gr_own HG.out HST.out.2 (fun k hk => by injection hk with hk; omega)⟩
          case measure => simp [intOf]; omega
        · have HNX := Lib.hid (HF.out.skip (x := x) (by omega))
          go_wp2_with fail
          go_roundw
          case rel => exact ⟨q + 1, M, by omega, by go_num, by rw [HTK.out]; exact HNX, HM, HG⟩
          case measure => simp [intOf]; omega
      · have HNX := Lib.hid (HF.out.skip (x := x) (by omega))
        go_wp2_with fail
        go_roundw
        case rel => exact ⟨q + 1, M, by omega, by go_num, by rw [HTK.out]; exact HNX, HM, HG⟩
        case measure => simp [intOf]; omega
    · have HTK := Lib.hid (show F.take q = F from List.take_of_length_le (by omega))
      rw [HTK.out] at HF
      clear HM1 HG1
      go_wp2_with fail
      refine (spread_any N A c0 E w.heap.size w.heap.size N M wr (HE.out.keep HG.out) HM.out HF.out.1 (fun he ad e => by subst e; have := eds_lt HE.out he; omega) hEl).mono ?_
      rintro e w2 ⟨M2, rfl, hcl, hm, hg⟩
      have HC2 := Lib.hid hcl
      have HM2 := Lib.hid hm
      have HG2 := Lib.hid (gr_own HG.out hg (fun k hk => by injection hk with hk; omega))
      have HL2 := Lib.hid (hcl.1.trans HF.out.1)
      have HRE := Lib.hid (HF.out.re hcl)
      have hlt2 := hm.lt.2
      clear hcl hm hg
      go_wp2_with fail
      go_loopw [10, 9] (fun i o wr => ∃ q : Nat, q ≤ N ∧ i = .int .i64 q ∧ Hid (wr.ownsRow w2.heap.size 3 1 o (mq M2 q).length (intsV (mq M2 q))) ∧ Hid (w2.grownBy wr none)) (fun i _ _ => N - (intOf i).toNat)
      case atStart => exact ⟨0, Nat.zero_le _, rfl, own_nil _ _ _ _, grownBy_refl _ _⟩
      case round =>
        obtain ⟨v, hv, rfl, HO, HG3⟩ := hrel
        have hsz := HG3.out.size
        by_cases hvn : v < N
        · have hb := List.getElem?_eq_getElem (show v < M2.length by rw [HL2.out]; exact hvn)
          have HSU := Lib.hid (mq_succ M2 v)
          have hql := mq_len M2 v
          have HMR := Lib.hid (HM2.out.gr HG3.out)
          by_cases hm : mk M2 v
          · rw [if_pos hm] at HSU
            have hc := HMR.out.cell hm
            clear hb hm
            go_wp2_with (at_builtin; go_must (refine app_int rfl (.tmp 53) (.tmp 55) rfl w2.heap.size u9 _ (mq M2 v) rfl (HO.out.alloc _) wr.heap.size v _ rfl (heap_alloc_new wr (.cells #[.int .i64 v] 3)) (by omega) (by simp only [World.size_alloc]; omega) ?_; intro v3 w3 ho3 hg3; have HG4 := Lib.hid (gr_own (gr_alloc HG3.out _) hg3 (own_is HO.out)); have HO3 := Lib.hid ho3; clear ho3 hg3))
            go_roundw
            case rel => exact ⟨v + 1, by omega, by go_num, by rw [HSU.out]; simpa using HO3, HG4⟩
            case measure => simp [intOf]; omega
          · rw [if_neg hm, List.append_nil] at HSU
            have hc := HMR.out.cell (not_mk (by rw [HL2.out]; exact hvn) hm)
            clear hb hm
            go_wp2_with fail
            go_roundw
            case rel => exact ⟨v + 1, by omega, by go_num, by rw [HSU.out]; exact HO, HG3⟩
            case measure => simp [intOf]; omega
        · obtain rfl : v = N := by omega
          rw [mq_all HL2.out] at HO
          go_wp2_with fail
          go_ret
          exact ⟨marked M2, HRE.out, RetInts.own HO.out HG2.out.size (grownBy_trans HG2.out HG3.out)⟩

end Go.Proofs.Ytneehdjaaofjaaa
