/- SccMore, walked. -/
import Derived.Test.YtneehdjaaofjaaaWc
namespace Go.Proofs.Ytneehdjaaofjaaa
open Go.RowKit
theorem box_cells {W : World} {b : Nat} {e : Edg} {t : TypeId} {fz : Nat × Nat} (h : W.heap[b]? = some (.cells (edC e) t fz)) : W.cell? ⟨b, 0, none⟩ = some (.int .i64 e.fr) ∧ W.cell? ⟨b, 2, none⟩ = some (.int .i64 e.to) := by
  constructor
  · rw [cell_of_row _ _ _ _ _ _ h]; rfl
  · rw [cell_of_row _ _ _ _ _ _ h]; rfl
theorem own_empty (w : World) : OwE w.heap.size (w.alloc (.cells #[] 33)).drew (.slice (some ⟨w.heap.size, 0, none⟩) 0 0) [] := by
  refine ⟨rfl, .inr ⟨w.heap.size, 0, #[], rfl, Nat.le_refl _, ?_, Nat.le_refl _, by unfold maxLen; omega, rfl, rfl⟩⟩
  exact heap_alloc_new w (.cells #[] 33)
theorem own_empty2 (w : World) (o : Obj) : OwE w.heap.size ((w.alloc o).alloc (.cells #[] 33)).drew (.slice (some ⟨w.heap.size + 1, 0, none⟩) 0 0) [] := by
  refine ⟨rfl, .inr ⟨w.heap.size + 1, 0, #[], rfl, Nat.le_succ _, ?_, Nat.le_refl _, by unfold maxLen; omega, rfl, rfl⟩⟩
  have h := heap_alloc_new (w.alloc o) (.cells #[] 33)
  rw [World.size_alloc] at h
  exact h
set_option maxRecDepth 100000 in
set_option maxHeartbeats 4000000 in
theorem more_walk (n : Int) (A : Option Addr) (c0 : Nat) (E0 : List Edg) (fr pc tt v : Int) (w : World) (hE : EdsAt w A E0) (hc : E0.length ≤ c0) (hA : A = none → c0 = 0) :
    Calls Try.prog 8 #[.int .i64 n, .slice A E0.length c0, .agg #[.int .i64 fr, .int .i64 pc, .int .i64 tt], .int .i64 v] w fun e w' => e = .returned (.bool true) ∧ w.grownBy w' none := by
  have HE0 := Lib.hid (hE.keep (gr_alloc (grownBy_refl w none) (.cells (edC ⟨fr, pc, tt⟩) 33)))
  have HG0 := Lib.hid (gr_alloc (grownBy_refl w none) (.cells (edC ⟨fr, pc, tt⟩) 33))
  have HB0 := Lib.hid (heap_alloc_new w (.cells (edC ⟨fr, pc, tt⟩) 33))
  clear hE
  go_enter Try.func8, Try.ntmps8
  go_wp2_with fail
  refine (show Calls Try.prog 9 #[] (w.alloc (.cells (edC ⟨fr, pc, tt⟩) 33)) _ from sh15_any _).mono ?_
  rintro e w1 ⟨rfl, hg⟩
  have HG1 := Lib.hid (grownBy_trans HG0.out hg)
  have HE1' := Lib.hid (HE0.out.keep hg)
  have HB1 := Lib.hid ((hg.block _ (lt_of_heap HB0.out) (by simp)).trans HB0.out)
  clear hg HE0 HG0 HB0
  go_wp2_with fail
  refine (few15c_any n A c0 E0 w1 HE1'.out hc).mono ?_
  rintro e w2 ⟨d, hdc, rfl, rfl⟩
  have HCC := Lib.hid (show A = none → d = 0 from fun h => by rw [hdc]; exact hA h)
  clear hdc
  have hN := szE60 n
  have HE1 := Lib.hid (HE1'.out.take 200)
  have hel : (E0.take 200).length ≤ 200 := by rw [List.length_take]; omega
  generalize (if 60 < n then 60 else n) = m at *
  generalize E0.take 200 = E at *
  generalize w.heap.size = b at *
  clear HE1'
  by_cases h190 : 190 < E.length
  · go_wp2_with fail
    go_ret
    exact ⟨rfl, HG1.out⟩
  go_wp2_with fail
  refine (Groups15 m A d E w1 HE1.out (by omega)).mono ?_
  rintro e w3 ⟨G, hG, A1, n1, c1, rfl, hI, hg, _⟩
  have HGR := Lib.hid hG
  have HI3 := Lib.hid hI
  have HG3 := Lib.hid (grownBy_trans HG1.out hg)
  have HE3 := Lib.hid (HE1.out.keep hg)
  have HB3 := Lib.hid ((hg.block _ (lt_of_heap HB1.out) (by simp)).trans HB1.out)
  obtain rfl : n1 = szE m := by rw [hI.len, hG.1]
  clear hG hI hg HG1 HE1 HB1
  go_upto_region 6 with fail
  go_cut [11] (fun x wx => ∃ (A5 : Option Addr) (c5 : Nat), x = .slice A5 (E ++ [(⟨fr, pc, tt⟩ : Edg)]).length c5 ∧ Hid (EdsAt wx A5 (E ++ [⟨fr, pc, tt⟩])) ∧ Hid (w3.grownBy wx none))
  case first =>
    have HKP := Lib.hid (fun (W : World) (hW : w3.grownBy W none) => (show w3.grownBy W none ∧ W.cell? ⟨b, 0, none⟩ = some (.int .i64 fr) ∧ W.cell? ⟨b, 1, none⟩ = some (.int .i64 pc) ∧ W.cell? ⟨b, 2, none⟩ = some (.int .i64 tt) from
      ⟨hW, box3 ((hW.block _ (lt_of_heap HB3.out) (by simp)).trans HB3.out)⟩))
    have hcc : A = none → d = 0 := HCC.out
    go_region_held3 (fun W => w3.grownBy W none ∧ W.cell? ⟨b, 0, none⟩ = some (.int .i64 fr) ∧ W.cell? ⟨b, 1, none⟩ = some (.int .i64 pc) ∧ W.cell? ⟨b, 2, none⟩ = some (.int .i64 tt)) (first | assumption | exact HKP.out _ (by first | assumption | exact (grownBy_refl w3 none).gr_drew | exact (gr_alloc (grownBy_refl w3 none) _).gr_drew | exact (gr_alloc (gr_alloc (grownBy_refl w3 none) _) _).gr_drew | exact gr_alloc (by assumption) _)) (first
      | (refine step_app_eds rfl (.tmp 31) (.tmp 32) rfl w3.heap.size (.slice (some ⟨w3.heap.size, 0, none⟩) 0 0) [] E (by simp [Act.eval]) (own_empty w3) A d (by simp [Act.eval]) (HE3.out.keep (by first | assumption | exact (grownBy_refl w3 none).gr_drew | exact (gr_alloc (grownBy_refl w3 none) _).gr_drew | exact (gr_alloc (gr_alloc (grownBy_refl w3 none) _) _).gr_drew | exact gr_alloc (by assumption) _)) hcc (by simp; omega) (show w3.grownBy (w3.alloc (.cells #[] 33)).drew none from (gr_alloc (grownBy_refl w3 none) _).gr_drew).size ?_; intro v4 w4 ho4 hg4; rw [List.nil_append] at ho4; have HO4 := Lib.hid ho4; have hgr4 : w3.grownBy w4 none := gr_far (B := w3.heap.size) (show w3.grownBy (w3.alloc (.cells #[] 33)).drew none from (gr_alloc (grownBy_refl w3 none) _).gr_drew) hg4 (Nat.le_refl _) (fun q hq => Nat.le_of_eq (by injection hq)); have HGR4 := Lib.hid hgr4; clear ho4 hg4)
      | (refine step_app_eds rfl (.tmp 31) (.tmp 32) rfl w3.heap.size (.slice (some ⟨w3.heap.size, 0, none⟩) 0 0) [] E (by simp [Act.eval]) ((show OwE w3.heap.size (w3.alloc (.cells #[] 33)) (.slice (some ⟨w3.heap.size, 0, none⟩) 0 0) [] from own_empty w3).gr (gr_alloc (grownBy_refl _ none) _).gr_drew) A d (by simp [Act.eval]) (HE3.out.keep (by first | assumption | exact (grownBy_refl w3 none).gr_drew | exact (gr_alloc (grownBy_refl w3 none) _).gr_drew | exact (gr_alloc (gr_alloc (grownBy_refl w3 none) _) _).gr_drew | exact gr_alloc (by assumption) _)) hcc (by simp; omega) (show w3.grownBy ((w3.alloc (.cells #[] 33)).alloc (.cells (edC ⟨fr, pc, tt⟩) 33)).drew none from (gr_alloc (gr_alloc (grownBy_refl w3 none) _) _).gr_drew).size ?_; intro v4 w4 ho4 hg4; rw [List.nil_append] at ho4; have HO4 := Lib.hid ho4; have hgr4 : w3.grownBy w4 none := gr_far (B := w3.heap.size) (show w3.grownBy ((w3.alloc (.cells #[] 33)).alloc (.cells (edC ⟨fr, pc, tt⟩) 33)).drew none from (gr_alloc (gr_alloc (grownBy_refl w3 none) _) _).gr_drew) hg4 (Nat.le_refl _) (fun q hq => Nat.le_of_eq (by injection hq)); have HGR4 := Lib.hid hgr4; have HBX := Lib.hid (eds_row (k := w3.heap.size + 1) (show EdsAt ((w3.alloc (.cells #[] 33)).alloc (.cells (edC ⟨fr, pc, tt⟩) 33)).drew (some ⟨w3.heap.size + 1, 0, none⟩) [(⟨fr, pc, tt⟩ : Edg)] from by have h := one_ed (w3.alloc (.cells #[] 33)) ⟨fr, pc, tt⟩ 33; rw [World.size_alloc] at h; exact h) hg4 (fun e => absurd (Option.some.inj (show some w3.heap.size = some (w3.heap.size + 1) from e)) (by omega))); clear ho4 hg4)
      | (refine step_app_eds rfl (.tmp 31) (.tmp 32) rfl w3.heap.size (.slice (some ⟨w3.heap.size + 1, 0, none⟩) 0 0) [] E (by simp [Act.eval]) (own_empty2 w3 _) A d (by simp [Act.eval]) (HE3.out.keep (by first | assumption | exact (grownBy_refl w3 none).gr_drew | exact (gr_alloc (grownBy_refl w3 none) _).gr_drew | exact (gr_alloc (gr_alloc (grownBy_refl w3 none) _) _).gr_drew | exact gr_alloc (by assumption) _)) hcc (by simp; omega) (show w3.grownBy ((w3.alloc (.cells (edC ⟨fr, pc, tt⟩) 33)).alloc (.cells #[] 33)).drew none from (gr_alloc (gr_alloc (grownBy_refl w3 none) _) _).gr_drew).size ?_; intro v4 w4 ho4 hg4; rw [List.nil_append] at ho4; have HO4 := Lib.hid ho4; have hgr4 : w3.grownBy w4 none := gr_far (B := w3.heap.size) (show w3.grownBy ((w3.alloc (.cells (edC ⟨fr, pc, tt⟩) 33)).alloc (.cells #[] 33)).drew none from (gr_alloc (gr_alloc (grownBy_refl w3 none) _) _).gr_drew) hg4 (Nat.le_refl _) (fun q hq => Nat.le_trans (Nat.le_succ _) (Nat.le_of_eq (by injection hq))); have HGR4 := Lib.hid hgr4; have HBX := Lib.hid (eds_row (k := w3.heap.size) (show EdsAt ((w3.alloc (.cells (edC ⟨fr, pc, tt⟩) 33)).alloc (.cells #[] 33)).drew (some ⟨w3.heap.size, 0, none⟩) [(⟨fr, pc, tt⟩ : Edg)] from (one_ed w3 ⟨fr, pc, tt⟩ 33).keep (gr_alloc (grownBy_refl _ none) _).gr_drew) hg4 (fun e => absurd (Option.some.inj (show some (w3.heap.size + 1) = some w3.heap.size from e)) (by omega))); clear ho4 hg4)
      | (refine step_app_eds rfl (.tmp 33) (.tmp 35) rfl w3.heap.size v4 E [⟨fr, pc, tt⟩] (by simp [Act.eval]) (HO4.out.gr (gr_alloc (grownBy_refl w4 none) _)) (some ⟨w4.heap.size, 0, none⟩) 1 (by simp [Act.eval]) (one_ed w4 ⟨fr, pc, tt⟩ _) (by simp) (by simp; omega) (Nat.le_trans HGR4.out.size (by simp only [World.size_alloc]; omega)) ?_; intro v5 w5 ho5 hg5; obtain ⟨A5, c5, rfl, _, hE5⟩ := OwE.eds ho5; have HE5 := Lib.hid hE5; have hgr5 : w3.grownBy w5 none := gr_far (B := w3.heap.size) (gr_alloc HGR4.out _) hg5 (Nat.le_refl _) (own_is HO4.out); have HGR5 := Lib.hid hgr5; clear ho5 hg5 hE5)
      | (refine step_app_eds rfl (.tmp 33) (.tmp 35) rfl w3.heap.size v4 E [⟨fr, pc, tt⟩] (by simp [Act.eval]) HO4.out (some ⟨_, 0, none⟩) 1 (by simp [Act.eval]) HBX.out (by simp) (by simp; omega) HGR4.out.size ?_; intro v5 w5 ho5 hg5; obtain ⟨A5, c5, rfl, _, hE5⟩ := OwE.eds ho5; have HE5 := Lib.hid hE5; have hgr5 : w3.grownBy w5 none := gr_far (B := w3.heap.size) HGR4.out hg5 (Nat.le_refl _) (own_is HO4.out); have HGR5 := Lib.hid hgr5; clear ho5 hg5 hE5))
    all_goals
      go_wp2_with fail
      go_meet
      case rel => exact ⟨A5, c5, (by rw [List.length_append]; rfl), HE5, HGR5⟩
  case rest =>
  obtain ⟨A5, c5, rfl, HM, HGM⟩ := hcut
  obtain ⟨w4, hw4⟩ : ∃ x, x = wc := ⟨_, rfl⟩
  subst hw4
  have HI4 := Lib.hid (HI3.out.keep HGM.out)
  have HE4 := Lib.hid (HE3.out.keep HGM.out)
  have HB4 := Lib.hid ((HGM.out.block _ (lt_of_heap HB3.out) (by simp)).trans HB3.out)
  have HG4 := Lib.hid (grownBy_trans HG3.out HGM.out)
  clear HI3 HE3 HB3 HG3 HGM
  obtain ⟨F, hF⟩ : ∃ F, F = E ++ [(⟨fr, pc, tt⟩ : Edg)] := ⟨_, rfl⟩
  rw [← hF] at HM ⊢
  have hFl : F.length ≤ 200 := by rw [hF, List.length_append, List.length_singleton]; omega
  have HF := Lib.hid hF
  clear hF
  go_wp2_with fail
  refine (Groups15 m A5 c5 F w4 HM.out (by omega)).mono ?_
  rintro e w5 ⟨H, hH, A6, n6, c6, rfl, hI, hg, _⟩
  have HHR := Lib.hid hH
  obtain rfl : n6 = szE m := by rw [hI.len, hH.1]
  have HJ5 := Lib.hid hI
  have HI5 := Lib.hid (HI4.out.keep hg)
  have HE5 := Lib.hid (HE4.out.keep hg)
  have HM5 := Lib.hid (HM.out.keep hg)
  have HG5 := Lib.hid (grownBy_trans HG4.out hg)
  have HB5 := Lib.hid ((hg.block _ (lt_of_heap HB4.out) (by simp)).trans HB4.out)
  clear hH hI hg HI4 HE4 HM HG4 HB4
  go_wp2_with fail
  have hga := gr_alloc (grownBy_refl w5 none) (.cells #[.int .i64 v] 3)
  refine (show Calls Try.prog 16 #[.int .i64 m, .slice A E.length d, .slice (some ⟨w5.heap.size, 0, none⟩) 1 1] (w5.alloc (.cells #[.int .i64 v] 3)) _ from Reach15 m A _ d 1 1 E [v] _ (HE5.out.keep hga) (IntsAt.new w5 [v] 3 _ 1 _ rfl rfl) (by omega) (by simp)).mono ?_
  rintro e w6 ⟨X, hX, A7, n7, c7, rfl, hI, hg, _⟩
  have HRX := Lib.hid hX
  obtain rfl : n7 = X.length := hI.len
  have hgg := grownBy_trans hga hg
  have HX6 := Lib.hid hI
  have HJ6 := Lib.hid (HJ5.out.keep hgg)
  have HI6 := Lib.hid (HI5.out.keep hgg)
  have HM6 := Lib.hid (HM5.out.keep hgg)
  have HG6 := Lib.hid (grownBy_trans HG5.out hgg)
  have HB6 := Lib.hid ((hgg.block _ (lt_of_heap HB5.out) (by simp)).trans HB5.out)
  clear hX hI hg hga hgg HJ5 HI5 HE5 HM5 HG5 HB5
  go_wp2_with fail
  have hga := gr_alloc (grownBy_refl w6 none) (.cells #[.int .i64 v] 3)
  refine (show Calls Try.prog 16 #[.int .i64 m, .slice A5 F.length c5, .slice (some ⟨w6.heap.size, 0, none⟩) 1 1] (w6.alloc (.cells #[.int .i64 v] 3)) _ from Reach15 m A5 _ c5 1 1 F [v] _ (HM6.out.keep hga) (IntsAt.new w6 [v] 3 _ 1 _ rfl rfl) (by omega) (by simp)).mono ?_
  rintro e w7 ⟨Y, hY, A8, n8, c8, rfl, hI, hg, _⟩
  have HRY := Lib.hid hY
  obtain rfl : n8 = Y.length := hI.len
  have hgg := grownBy_trans hga hg
  have HY7 := Lib.hid hI
  have HX7 := Lib.hid (HX6.out.keep hgg)
  have HJ7 := Lib.hid (HJ6.out.keep hgg)
  have HI7 := Lib.hid (HI6.out.keep hgg)
  have HG7 := Lib.hid (grownBy_trans HG6.out hgg)
  have HB7 := Lib.hid ((hgg.block _ (lt_of_heap HB6.out) (by simp)).trans HB6.out)
  clear hY hI hg hga hgg HX6 HJ6 HI6 HM6 HG6 HB6
  generalize szE m = N at *
  have HPS := Lib.hid (show ∀ p ∈ prs N E, p ∈ prs N F from fun p hp => by rw [HF.out]; exact prs_more hp)
  have hxy := re_more HPS.out HRX.out HRY.out
  have hxl := HRX.out.len
  have hyl := HRY.out.len
  have hd1 : decide (Y.length < X.length) = false := decide_eq_false (by omega)
  obtain ⟨hb1, hb2⟩ := box_cells HB7.out
  dsimp only at hb1 hb2
  by_cases ht : 0 ≤ fr ∧ fr < (N : Int) ∧ 0 ≤ tt ∧ tt < (N : Int)
  · obtain ⟨h1, h2, h3, h4⟩ := ht
    go_wp2_with fail
    clear hb1 hb2
    go_loopw [16] (fun i wi => ∃ j : Nat, j ≤ N ∧ i = .int .i64 j ∧ Hid (w7.grownBy wi none)) (fun i _ => N - (intOf i).toNat)
    case atStart => exact ⟨0, Nat.zero_le _, rfl, grownBy_refl _ _⟩
    case round =>
      obtain ⟨j, hj, rfl, HGX⟩ := hrel
      obtain ⟨w8, hw8⟩ : ∃ x, x = wr := ⟨_, rfl⟩
      subst hw8
      by_cases hjn : j < N
      · obtain ⟨x, y, hx, hy, hxN, hyx, hz⟩ := gr_more HPS.out HGR.out HHR.out hjn
        obtain ⟨ad, rfl, hx9⟩ := HI7.out.at_ (show j < G.length by rw [HGR.out.1]; exact hjn)
        clear hx9
        obtain ⟨bd, rfl, hx9⟩ := HJ7.out.at_ (show j < H.length by rw [HHR.out.1]; exact hjn)
        clear hx9
        have hc1 := (HI7.out.keep HGX.out).cellOf hx
        have hc2 := (HJ7.out.keep HGX.out).cellOf hy
        have hc3 := (HJ7.out.keep HGX.out).cellOf hz
        have hd2 : decide (x < y) = false := decide_eq_false (by omega)
        have hd3 : decide ((x : Int) < (y : Int)) = false := decide_eq_false (by omega)
        clear hx hy hz
        go_upto_region 18 with fail
        go_quiet (fail)
        go_wp2_with fail
        go_roundw
        case rel => exact ⟨j + 1, by omega, by go_num, gr_drewN HGX.out _⟩
        case measure => simp [intOf]; omega
      · obtain rfl : j = N := by omega
        have HEND := Lib.hid (grownBy_trans HG7.out HGX.out)
        go_wp2_with fail
        go_ret
        exact ⟨rfl, HEND.out⟩
  · have hid : edgeIn N ⟨fr, pc, tt⟩ = false := decide_eq_false ht
    have hps : prs N F = prs N E := by rw [HF.out]; exact prs_idle hid
    obtain rfl : G = H := HGR.out.same (show IsGr N (prs N E) H by rw [← hps]; exact HHR.out)
    obtain rfl : X = Y := HRX.out.same (show IsRe N (prs N E) [v] Y by rw [← hps]; exact HRY.out)
    have HDD := Lib.hid ht
    clear hid hps ht
    have hgl : G.length ≤ 1000000000000 := by rw [HGR.out.1]; omega
    go_upto_region 12 with fail
    go_cut [15] (fun x wx => x = .bool false ∧ w7 = wx)
    case first =>
      by_cases h1 : 0 ≤ fr
      · by_cases h2 : fr < (N : Int)
        · by_cases h3 : 0 ≤ tt
          · have h4 : ¬ tt < (N : Int) := fun h4 => HDD.out ⟨h1, h2, h3, h4⟩
            go_wp2_with fail
            go_meet
            case rel => exact ⟨rfl, (by first | rfl | trivial)⟩
          · go_wp2_with fail
            go_meet
            case rel => exact ⟨rfl, (by first | rfl | trivial)⟩
        · go_wp2_with fail
          go_meet
          case rel => exact ⟨rfl, (by first | rfl | trivial)⟩
      · go_wp2_with fail
        go_meet
        case rel => exact ⟨rfl, (by first | rfl | trivial)⟩
    case rest =>
    obtain ⟨rfl, hwc⟩ := hcut
    subst hwc
    clear hb1 hb2
    go_wp2_with fail
    refine (Ints_any _ _ _ _ _ _ G G _ HI7.out HJ7.out hgl).mono ?_
    rintro e w8 ⟨rfl, hg⟩
    rw [decide_eq_true rfl]
    have HG8 := Lib.hid (grownBy_trans HG7.out hg)
    have HX8 := Lib.hid (HX7.out.keep hg)
    have HY8 := Lib.hid (HY7.out.keep hg)
    clear hg HG7 HX7 HY7 HI7 HJ7
    go_wp2_with fail
    refine (Ints_any _ _ _ _ _ _ X X _ HX8.out HY8.out (by omega)).mono ?_
    rintro e w9 ⟨rfl, hg⟩
    rw [decide_eq_true rfl]
    have HG9 := Lib.hid (grownBy_trans HG8.out hg)
    clear hg HG8 HX8 HY8
    go_wp2_with fail
    go_ret
    exact ⟨rfl, HG9.out⟩

end Go.Proofs.Ytneehdjaaofjaaa
