/- stage 6: the document's Ints, ints; shown. -/
import Derived.Test.YtjfbkogjgjmndaaDoorNk
import Derived.Deep.DeepCutAuto
namespace Go.Proofs.YtjfbkogjgjmndaaDoor
open Go.RowKit
theorem gr_drewN {a b : World} {r : Option Nat} (h : a.grownBy b r) (n : Nat) : a.grownBy (b.drewN n) r := ⟨h.os, h.tape, h.output, h.size, h.block⟩
def RowI (W : World) (g : Nat) (l : List Int) : Prop := ∀ j x, l[j]? = some x → W.cell? ⟨g, j, none⟩ = some (.int .i64 x)
theorem RowI.gr {W W' : World} {g : Nat} {l : List Int} (h : RowI W g l) (k : W.grownBy W' none) : RowI W' g l := fun j x hx => by
  have h1 := h j x hx
  exact (World.cell?_of_block (k.block _ (World.block_lt_of_cell? W _ h1) (by simp))).trans h1
theorem OwI.row {B : Nat} {W : World} {v : Value} {l : List Int} (h : OwI B W v l) (hl : l ≠ []) : ∃ g c, v = .slice (some ⟨g, 0, none⟩) l.length c ∧ RowI W g l := by
  rcases h.2 with ⟨hv, h0⟩ | ⟨g, cap, cur, hv, hb, hh, hn, hc, hs, ht⟩
  · exact absurd (List.length_eq_zero_iff.1 h0) hl
  · refine ⟨g, cap, hv, fun j x hx => ?_⟩
    rw [cell_of_row _ _ _ _ _ _ hh, ← Array.getElem?_toList]
    have h3 : (cur.toList.take (l.length * 1))[j]? = some (.int .i64 x) := by
      rw [ht]
      unfold intsV
      rw [List.getElem?_map, hx]
      rfl
    rw [List.getElem?_take] at h3
    split at h3
    · exact h3
    · cases h3
theorem RowI.lit {W : World} {g : Nat} {l : List Int} {t : TypeId} {fz : Nat × Nat} {cs : Array Value} (h : W.heap[g]? = some (.cells cs t fz)) (hc : cs.toList = intsV l) : RowI W g l := fun j x hx => by
  rw [cell_of_row _ _ _ _ _ _ h, ← Array.getElem?_toList, hc]
  unfold intsV
  rw [List.getElem?_map, hx]
  rfl
set_option maxRecDepth 100000 in
set_option maxHeartbeats 4000000 in
theorem Ints_same (g h c d : Nat) (l : List Int) (w : World) (hA : RowI w g l) (hB : RowI w h l) (hl : l.length ≤ 1000000) :
    Calls Tryd.prog 9 #[.slice (some ⟨g, 0, none⟩) l.length c, .slice (some ⟨h, 0, none⟩) l.length d] w fun e w' => e = .returned (.bool true) ∧ w.grownBy w' none := by
  have HA := Lib.hid hA
  have HB := Lib.hid hB
  clear hA hB
  go_enter Tryd.func9, Tryd.ntmps9
  go_wp2_with fail
  go_loopw [5] (fun i wr => ∃ q : Nat, q ≤ l.length ∧ i = .int .i64 q ∧ w.grownBy wr none) (fun i _ => l.length - (intOf i).toNat)
  case atStart => exact ⟨0, Nat.zero_le _, rfl, grownBy_refl _ _⟩
  case round =>
    obtain ⟨q, hq, rfl, hg⟩ := hrel
    have HG := Lib.hid hg
    clear hg
    by_cases hlt : q < l.length
    · have hx := List.getElem?_eq_getElem hlt
      have hc1 := HA.out.gr HG.out q _ hx
      have hc2 := HB.out.gr HG.out q _ hx
      generalize l[q] = x at hc1 hc2 hx
      clear hx
      go_wp2_with fail
      go_quiet (fail)
      go_wp2_with fail
      go_roundw
      case rel => exact ⟨q + 1, by omega, by go_num, gr_drewN HG.out _⟩
      case measure => simp [intOf]; omega
    · go_wp2_with fail
      go_ret
      exact ⟨rfl, HG.out⟩
set_option maxRecDepth 100000 in
set_option maxHeartbeats 4000000 in
theorem ints_any (w : World) :
    Calls Tryd.prog 6 #[] w fun e w' => (∃ b, e = .returned (arV ((2 : Nat) + 1) b 1) ∧ ArrAt w' b 3) ∧ w.grownBy w' none := by
  have h1 := blk_alloc (blk_new w (.cells #[.int .i64 6, .int .i64 3, .string ⟨#[]⟩, .slice (some ⟨w.heap.size + 1, 0, none⟩) 1 1] 26)) (.cells #[.int .i64 3, .int .i64 0, .string ⟨#[]⟩, .slice none 0 0] 26)
  have h2 := blk_new (w.alloc (.cells #[.int .i64 6, .int .i64 3, .string ⟨#[]⟩, .slice (some ⟨w.heap.size + 1, 0, none⟩) 1 1] 26)) (.cells #[.int .i64 3, .int .i64 0, .string ⟨#[]⟩, .slice none 0 0] 26)
  rw [World.size_alloc] at h2
  obtain ⟨s0, s1, s2, s3, -⟩ := cells4_of h1
  go_enter Tryd.func6, Tryd.ntmps6
  go_wp2_with fail
  refine bodyPost_ret (v := .agg #[.int .i64 6, .int .i64 3, .string ⟨#[]⟩, .slice (some ⟨w.heap.size + 1, 0, none⟩) 1 1]) (by simp [results, Tryd.results6, go_sem, s0, s1, s2, s3]) rfl ⟨⟨w.heap.size + 1, rfl, h2⟩, by repeat (first | with_reducible exact grownBy_refl _ _ | with_reducible assumption | with_reducible refine World.grownBy.gr_drew ?_ | with_reducible refine World.grownBy.gr_set ?_ (by simp) _ | with_reducible refine gr_alloc ?_ _)⟩
theorem sh_a : nrm (widthK 3 * (((2 : Nat) : Int) + 1)) (widthK 3) 5 = 1 := by decide
theorem sh_b : nrm (widthK 3 * (((2 : Nat) : Int) + 1)) (widthK 3) 12 = 12 := by decide
theorem sh_c : ddI (widthK 3 * (((2 : Nat) : Int) + 1)) (widthK 3) (List.range ((widthK 3 * (((2 : Nat) : Int) + 1)).toNat + 1)) = [0, 1, 2, 3, 12] := by decide
theorem sh_d : clsI (widthK 3 * (((2 : Nat) : Int) + 1)) (widthK 3) (nrm (widthK 3 * (((2 : Nat) : Int) + 1)) (widthK 3) 1) (List.range ((widthK 3 * (((2 : Nat) : Int) + 1)).toNat + 1)) = [1, 5, 9] := by decide
set_option maxRecDepth 100000 in
set_option maxHeartbeats 4000000 in
theorem shown_any (w : World) (hv : VarsK w) :
    Calls Tryd.prog 4 #[] w fun e w' => e = .returned (.bool true) ∧ w.grownBy w' none := by
  have HV := Lib.hid hv
  clear hv
  go_enter Tryd.func4, Tryd.ntmps4
  go_wp2_with fail
  refine (ints_any w).mono ?_
  rintro e w1 ⟨⟨b1, rfl, ha⟩, hg⟩
  have HG1 := Lib.hid hg
  have HA1 := Lib.hid ha
  clear ha hg
  go_wp2_with fail
  refine (Norm_ar 2 3 5 b1 1 rfl (by decide) (by decide) (by decide) w1 (HV.out.grown HG1.out) HA1.out).mono ?_
  rintro e w2 ⟨rfl, hg⟩
  rw [sh_a]
  have HG2 := Lib.hid (grownBy_trans HG1.out hg)
  clear hg HA1 HG1
  go_wp2_with fail
  refine (ints_any w2).mono ?_
  rintro e w3 ⟨⟨b2, rfl, ha⟩, hg⟩
  have HG3 := Lib.hid (grownBy_trans HG2.out hg)
  have HA3 := Lib.hid ha
  clear ha hg HG2
  go_wp2_with fail
  refine (Norm_ar 2 3 12 b2 1 rfl (by decide) (by decide) (by decide) w3 (HV.out.grown HG3.out) HA3.out).mono ?_
  rintro e w4 ⟨rfl, hg⟩
  rw [sh_b]
  have HG4 := Lib.hid (grownBy_trans HG3.out hg)
  clear hg HA3 HG3
  go_wp2_with fail
  refine (ints_any w4).mono ?_
  rintro e w5 ⟨⟨b3, rfl, ha⟩, hg⟩
  have HG5 := Lib.hid (grownBy_trans HG4.out hg)
  have HA5 := Lib.hid ha
  clear ha hg HG4
  go_wp2_with fail
  refine (Offs_ar 2 3 b3 1 rfl (by decide) w5 (HV.out.grown HG5.out) HA5.out).mono ?_
  rintro e w6 ⟨⟨v6, rfl, hO⟩, hg⟩
  rw [sh_c] at hO
  obtain ⟨g6, c6, rfl, hR⟩ := hO.row (by simp)
  have HR6 := Lib.hid hR
  have HG6 := Lib.hid (grownBy_trans HG5.out hg)
  clear hg HA5 HG5 hO hR
  go_wp2_with fail
  refine (ints_any w6).mono ?_
  rintro e w7 ⟨⟨b4, rfl, ha⟩, hg⟩
  have HR7 := Lib.hid (HR6.out.gr hg)
  have HG7 := Lib.hid (grownBy_trans HG6.out hg)
  have HA7 := Lib.hid ha
  clear ha hg HG6 HR6
  go_wp2_with fail
  refine (Class_ar 2 3 1 b4 1 rfl (by decide) (by decide) (by decide) w7 (HV.out.grown HG7.out) HA7.out).mono ?_
  rintro e w8 ⟨⟨v8, rfl, hO⟩, hg⟩
  rw [sh_d] at hO
  obtain ⟨g8, c8, rfl, hR⟩ := hO.row (by simp)
  have HR8 := Lib.hid hR
  have HS8 := Lib.hid (HR7.out.gr hg)
  have HG8 := Lib.hid (grownBy_trans HG7.out hg)
  clear hg HA7 HG7 hO hR HR7
  go_wp2_with fail
  refine (show Calls Tryd.prog 9 #[.slice (some ⟨g6, 0, none⟩) 5 c6, .slice (some ⟨w8.heap.size, 0, none⟩) 5 5] _ _ from Ints_same g6 w8.heap.size c6 5 [0, 1, 2, 3, 12] _ (HS8.out.gr (gr_alloc (grownBy_refl w8 none) (.cells #[.int .i64 0, .int .i64 1, .int .i64 2, .int .i64 3, .int .i64 12] 3))) (RowI.lit (blk_new w8 (.cells #[.int .i64 0, .int .i64 1, .int .i64 2, .int .i64 3, .int .i64 12] 3)) rfl) (by simp)).mono ?_
  rintro e w9 ⟨rfl, hg⟩
  have HR9 := Lib.hid (HR8.out.gr (grownBy_trans (gr_alloc (grownBy_refl w8 none) (.cells #[.int .i64 0, .int .i64 1, .int .i64 2, .int .i64 3, .int .i64 12] 3)) hg))
  have HG9 := Lib.hid (grownBy_trans (gr_alloc HG8.out (.cells #[.int .i64 0, .int .i64 1, .int .i64 2, .int .i64 3, .int .i64 12] 3)) hg)
  clear hg HG8 HR8 HS8
  go_wp2_with fail
  refine (show Calls Tryd.prog 9 #[.slice (some ⟨g8, 0, none⟩) 3 c8, .slice (some ⟨w9.heap.size, 0, none⟩) 3 3] _ _ from Ints_same g8 w9.heap.size c8 3 [1, 5, 9] _ (HR9.out.gr (gr_alloc (grownBy_refl w9 none) (.cells #[.int .i64 1, .int .i64 5, .int .i64 9] 3))) (RowI.lit (blk_new w9 (.cells #[.int .i64 1, .int .i64 5, .int .i64 9] 3)) rfl) (by simp)).mono ?_
  rintro e w10 ⟨rfl, hg⟩
  have HG10 := Lib.hid (grownBy_trans (gr_alloc HG9.out (.cells #[.int .i64 1, .int .i64 5, .int .i64 9] 3)) hg)
  clear hg HG9 HR9
  go_wp2_with fail
  go_ret
  exact ⟨rfl, HG10.out⟩

end Go.Proofs.YtjfbkogjgjmndaaDoor
