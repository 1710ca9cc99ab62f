/- mem: shown. -/
import Derived.Test.YtblhnjoophhliaaM13
namespace Go.Proofs.Ytblhnjoophhliaa
open Go.RowKit
structure ShR (w : World) (b5 b7 : Nat) (W : World) : Prop where
  v5 : VBox W b5 ⟨3, 1, 0⟩
  v7 : VBox W b7 ⟨3, 1, 2⟩
  gr : w.grownBy W none
theorem ShR.grown {w a b : World} {b5 b7 : Nat} (h : ShR w b5 b7 a) (g : a.grownBy b none) : ShR w b5 b7 b := ⟨h.v5.gr g (by simp), h.v7.gr g (by simp), grownBy_trans h.gr g⟩
theorem ShR.drew {w a : World} {b5 b7 : Nat} (h : ShR w b5 b7 a) : ShR w b5 b7 a.drew := ⟨h.v5, h.v7, h.gr.gr_drew⟩
theorem ShR.reads {w W : World} {b5 b7 : Nat} (h : ShR w b5 b7 W) : W.cell? ⟨b5, 0, none⟩ = some (.int .i64 3) ∧ W.cell? ⟨b5, 1, none⟩ = some (.int .i64 1) ∧ W.cell? ⟨b5, 2, none⟩ = some (.int .i64 0) ∧
    W.cell? ⟨b7, 0, none⟩ = some (.int .i64 3) ∧ W.cell? ⟨b7, 1, none⟩ = some (.int .i64 1) ∧ W.cell? ⟨b7, 2, none⟩ = some (.int .i64 2) := ⟨h.v5.cells.1, h.v5.cells.2.1, h.v5.cells.2.2, h.v7.cells.1, h.v7.cells.2.1, h.v7.cells.2.2⟩
theorem ShR.all {w W : World} {b5 b7 : Nat} (h : ShR w b5 b7 W) : W.cell? ⟨b5, 0, none⟩ = some (.int .i64 3) ∧ W.cell? ⟨b5, 1, none⟩ = some (.int .i64 1) ∧ W.cell? ⟨b5, 2, none⟩ = some (.int .i64 0) ∧
    W.cell? ⟨b7, 0, none⟩ = some (.int .i64 3) ∧ W.cell? ⟨b7, 1, none⟩ = some (.int .i64 1) ∧ W.cell? ⟨b7, 2, none⟩ = some (.int .i64 2) ∧ ShR w b5 b7 W := ⟨h.v5.cells.1, h.v5.cells.2.1, h.v5.cells.2.2, h.v7.cells.1, h.v7.cells.2.1, h.v7.cells.2.2, h⟩
set_option maxRecDepth 100000 in
set_option maxHeartbeats 4000000 in
theorem shown_any (w : World) :
    Calls Try.prog 10 #[] w fun e w' => e = .returned (.bool true) ∧ w.grownBy w' none := by
  go_enter Try.func10, Try.ntmps10
  go_wp2_with fail
  refine (New_any w).mono ?_
  rintro e w0 ⟨rfl, rfl⟩
  have HS0 := Lib.hid (St.new w w (grownBy_refl _ _))
  go_wp2_with fail
  refine (alloc_st 5 16 false HS0.out).mono ?_
  rintro e w1 ⟨rfl, hs, hk⟩
  rw [sh0] at hs ⊢
  dsimp only at hs ⊢
  have HS1 := Lib.hid hs
  clear hs hk HS0
  generalize (w.alloc (.cells #[.slice none 0 0] 73)).heap.size = g at *
  go_wp2_with fail
  refine (at_any 8 _).mono ?_
  rintro e w2 ⟨rfl, g2⟩
  have HS2 := Lib.hid (HS1.out.gr' g2)
  clear g2 HS1
  go_wp2_with fail
  refine (at_any 3 _).mono ?_
  rintro e w3 ⟨rfl, g3⟩
  have HS3 := Lib.hid (HS2.out.gr' g3)
  clear g3 HS2
  go_wp2_with fail
  refine (show Calls Try.prog 19 #[.pointer (some ⟨w.heap.size, 0, none⟩), .agg #[.int .i64 8, .int .i64 1, .int .i64 0], .int .i64 8, .agg #[.int .i64 3, .int .i64 1, .int .i64 0]] w3 _ from store_st ⟨8, 1, 0⟩ ⟨3, 1, 0⟩ 8 HS3.out).mono ?_
  rintro e w4 ⟨rfl, hs, hk⟩
  rw [sh1]
  have HS4 := Lib.hid (show St w w4 w.heap.size (shL g) from hs)
  clear hs hk HS3
  go_wp2_with fail
  refine (at_any 8 _).mono ?_
  rintro e w5 ⟨rfl, g5⟩
  have HS5 := Lib.hid (HS4.out.gr' g5)
  clear g5 HS4
  go_wp2_with fail
  refine (show Calls Try.prog 17 #[.pointer (some ⟨w.heap.size, 0, none⟩), .agg #[.int .i64 8, .int .i64 1, .int .i64 0], .int .i64 8] w5 _ from load_st ⟨8, 1, 0⟩ 8 HS5.out).mono ?_
  rintro e w6 ⟨rfl, hs, g6⟩
  rw [sh2]
  have HS6 := Lib.hid (hs.gr' (gr_alloc (grownBy_refl w6 none) (.cells #[.int .i64 3, .int .i64 1, .int .i64 0] 29)))
  have HV6 := Lib.hid (show VBox (w6.alloc (.cells #[.int .i64 3, .int .i64 1, .int .i64 0] 29)) w6.heap.size ⟨3, 1, 0⟩ from VBox.new w6 ⟨3, 1, 0⟩)
  clear hs g6 HS5
  unfold valV valC
  go_wp2_with fail
  refine (at_any 9 _).mono ?_
  rintro e w7 ⟨rfl, g7⟩
  have HS7 := Lib.hid (HS6.out.gr' g7)
  have HV7 := Lib.hid (HV6.out.gr g7 (by simp))
  clear g7 HS6 HV6
  go_wp2_with fail
  refine (show Calls Try.prog 17 #[.pointer (some ⟨w.heap.size, 0, none⟩), .agg #[.int .i64 9, .int .i64 1, .int .i64 0], .int .i64 1] w7 _ from load_st ⟨9, 1, 0⟩ 1 HS7.out).mono ?_
  rintro e w8 ⟨rfl, hs, g8⟩
  rw [sh3]
  have HS8 := Lib.hid (hs.gr' (gr_alloc (grownBy_refl w8 none) (.cells #[.int .i64 3, .int .i64 1, .int .i64 2] 29)))
  have HV8 := Lib.hid ((HV7.out.gr g8 (by simp)).gr (gr_alloc (grownBy_refl w8 none) (.cells #[.int .i64 3, .int .i64 1, .int .i64 2] 29)) (by simp))
  have HU8 := Lib.hid (show VBox (w8.alloc (.cells #[.int .i64 3, .int .i64 1, .int .i64 2] 29)) w8.heap.size ⟨3, 1, 2⟩ from VBox.new w8 ⟨3, 1, 2⟩)
  clear hs g8 HS7 HV7
  unfold valV valC
  go_wp2_with fail
  refine (at_any 8 _).mono ?_
  rintro e w9 ⟨rfl, g9⟩
  have HS9 := Lib.hid (HS8.out.gr' g9)
  have HV9 := Lib.hid (HV8.out.gr g9 (by simp))
  have HU9 := Lib.hid (HU8.out.gr g9 (by simp))
  clear g9 HS8 HV8 HU8
  go_wp2_with fail
  refine (show Calls Try.prog 17 #[.pointer (some ⟨w.heap.size, 0, none⟩), .agg #[.int .i64 8, .int .i64 1, .int .i64 0], .int .i64 4] w9 _ from load_st ⟨8, 1, 0⟩ 4 HS9.out).mono ?_
  rintro e wa ⟨rfl, hs, ga⟩
  rw [sh4]
  have HSa := Lib.hid (hs.gr' (gr_alloc (grownBy_refl wa none) (.cells #[.int .i64 0, .int .i64 0, .int .i64 0] 29)))
  have HVa := Lib.hid ((HV9.out.gr ga (by simp)).gr (gr_alloc (grownBy_refl wa none) (.cells #[.int .i64 0, .int .i64 0, .int .i64 0] 29)) (by simp))
  have HUa := Lib.hid ((HU9.out.gr ga (by simp)).gr (gr_alloc (grownBy_refl wa none) (.cells #[.int .i64 0, .int .i64 0, .int .i64 0] 29)) (by simp))
  clear hs ga HS9 HV9 HU9
  unfold valV valC val0
  go_wp2_with fail
  refine (at_any 0 _).mono ?_
  rintro e wb ⟨rfl, gb⟩
  have HSb := Lib.hid (HSa.out.gr' gb)
  have HVb := Lib.hid (HVa.out.gr gb (by simp))
  have HUb := Lib.hid (HUa.out.gr gb (by simp))
  clear gb HSa HVa HUa
  go_wp2_with fail
  refine (show Calls Try.prog 17 #[.pointer (some ⟨w.heap.size, 0, none⟩), .agg #[.int .i64 0, .int .i64 1, .int .i64 0], .int .i64 8] wb _ from load_st ⟨0, 1, 0⟩ 8 HSb.out).mono ?_
  rintro e wc ⟨rfl, hs, gc⟩
  rw [sh5]
  have HX := ShR.drew (w := w) (b5 := w6.heap.size) (b7 := w8.heap.size) (a := wc.alloc (.cells #[.int .i64 0, .int .i64 0, .int .i64 0] 29))
    ⟨(HVb.out.gr gc (by simp)).gr (gr_alloc (grownBy_refl wc none) (.cells #[.int .i64 0, .int .i64 0, .int .i64 0] 29)) (by simp), (HUb.out.gr gc (by simp)).gr (gr_alloc (grownBy_refl wc none) (.cells #[.int .i64 0, .int .i64 0, .int .i64 0] 29)) (by simp), gr_alloc hs.gr _⟩
  clear hs gc HSb HVb HUb
  unfold valV valC val0
  go_wp2_with fail
  obtain ⟨x0, x1, x2, y0, y1, y2⟩ := HX.reads
  have h1 := fun W => eqValB W 3 1 0 3 1 0
  have h2 := fun W => eqValB W 3 1 2 3 1 2
  rw [decide_eq_true rfl] at h1 h2
  have HA := Lib.hid (fun W => at_any 3 W)
  go_region_held3 (fun W => W.cell? ⟨w6.heap.size, 0, none⟩ = some (.int .i64 3) ∧ W.cell? ⟨w6.heap.size, 1, none⟩ = some (.int .i64 1) ∧ W.cell? ⟨w6.heap.size, 2, none⟩ = some (.int .i64 0) ∧ W.cell? ⟨w8.heap.size, 0, none⟩ = some (.int .i64 3) ∧ W.cell? ⟨w8.heap.size, 1, none⟩ = some (.int .i64 1) ∧ W.cell? ⟨w8.heap.size, 2, none⟩ = some (.int .i64 2) ∧ ShR w w6.heap.size w8.heap.size W)
    (exact ShR.all (by assumption))
    (first | (go_at_call 31; refine (HA.out _).mono ?_; rintro e w' ⟨rfl, hg⟩; have hbx := ShR.grown (by assumption) hg; clear hg))
  clear h1 h2 x0 x1 x2 y0 y1 y2 HX
  go_wp2_with fail
  go_ret
  exact ⟨rfl, hbx.gr⟩

end Go.Proofs.Ytblhnjoophhliaa
