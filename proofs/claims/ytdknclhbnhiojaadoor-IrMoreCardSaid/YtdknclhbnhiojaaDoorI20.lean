/- The document's Others. -/
import Derived.Test.YtdknclhbnhiojaaDoorI19
namespace Go.Proofs.YtdknclhbnhiojaaDoor
open Go.RowKit
def othB (p : Prg) (f : Fun') (i : Ins) : Bool :=
  if i.op = 2 then kindP p i.b != 0 else if i.op = 5 then betB i.sign else if i.op = 6 then unB i.sign else if i.op = 7 ∨ i.op = 8 ∨ i.op = 9 then widB i.w else if i.op = 10 then inB i.n 4097
  else if i.op = 13 then kindP p i.n == 3 else if i.op = 15 then fnB p i else if i.op = 16 then decide (i.args.length ≤ 6) else if i.op = 17 ∨ i.op = 18 then inB i.n f.code.length else true
section
variable (p : Prg) (f : Fun') (a b c ww n : Int) (sign : ByteArray) (aa : Option Addr) (an ac : Nat) (args : List Int) (w : World)
theorem box3 (i : Ins) : w.grownBy (((w.alloc (.cells (prgC p) 34)).alloc (.cells (funC f) 43)).alloc (.cells (insC i) 24)) none := by repeat (first | with_reducible exact grownBy_refl _ _ | with_reducible assumption | with_reducible refine World.grownBy.gr_drew ?_ | with_reducible refine World.grownBy.gr_set ?_ (by simp) _ | with_reducible refine gr_alloc ?_ _)
set_option maxRecDepth 100000 in
set_option maxHeartbeats 4000000 in
theorem oth_2 (hp : PrgOk w p) : Calls Tryd.prog 32 #[prgV p, funV f, insV ⟨2, a, b, c, ww, n, sign, aa, an, ac, args⟩] w fun e w' => e = .returned (.bool (kindP p b != 0)) ∧ w.grownBy w' none := by
  have HG0 := Lib.hid (box3 p f w ⟨2, a, b, c, ww, n, sign, aa, an, ac, args⟩)
  have HC := Lib.hid (Kind_any p b _ (hp.keep (CellsK.of HG0.out)))
  clear hp
  unfold prgV prgC funC insC at HC
  unfold prgC funC insC at HG0
  unfold prgV funV insV prgC funC insC
  go_enter Tryd.func32, Tryd.ntmps32
  go_wp2_with fail
  refine (HC.out).mono ?_
  rintro e w1 ⟨rfl, hg1⟩
  have HG1 := Lib.hid (grownBy_trans HG0.out hg1)
  clear hg1
  go_wp2_with fail
  go_ret
  exact ⟨rfl, HG1.out⟩
set_option maxRecDepth 100000 in
set_option maxHeartbeats 4000000 in
theorem oth_13 (hp : PrgOk w p) : Calls Tryd.prog 32 #[prgV p, funV f, insV ⟨13, a, b, c, ww, n, sign, aa, an, ac, args⟩] w fun e w' => e = .returned (.bool (kindP p n == 3)) ∧ w.grownBy w' none := by
  have HG0 := Lib.hid (box3 p f w ⟨13, a, b, c, ww, n, sign, aa, an, ac, args⟩)
  have HC := Lib.hid (Kind_any p n _ (hp.keep (CellsK.of HG0.out)))
  clear hp
  unfold prgV prgC funC insC at HC
  unfold prgC funC insC at HG0
  unfold prgV funV insV prgC funC insC
  go_enter Tryd.func32, Tryd.ntmps32
  go_wp2_with fail
  refine (HC.out).mono ?_
  rintro e w1 ⟨rfl, hg1⟩
  have HG1 := Lib.hid (grownBy_trans HG0.out hg1)
  clear hg1
  go_wp2_with fail
  go_ret
  exact ⟨rfl, HG1.out⟩
set_option maxRecDepth 100000 in
set_option maxHeartbeats 4000000 in
theorem oth_5 : Calls Tryd.prog 32 #[prgV p, funV f, insV ⟨5, a, b, c, ww, n, sign, aa, an, ac, args⟩] w fun e w' => e = .returned (.bool (betB sign)) ∧ w.grownBy w' none := by
  have HG0 := Lib.hid (gr_alloc (box3 p f w ⟨5, a, b, c, ww, n, sign, aa, an, ac, args⟩) (.cells #[.string ⟨#[43]⟩, .string ⟨#[45]⟩, .string ⟨#[42]⟩, .string ⟨#[47]⟩, .string ⟨#[37]⟩, .string ⟨#[38]⟩, .string ⟨#[124]⟩, .string ⟨#[94]⟩, .string ⟨#[60, 60]⟩, .string ⟨#[62, 62]⟩, .string ⟨#[61, 61]⟩, .string ⟨#[33, 61]⟩, .string ⟨#[60]⟩, .string ⟨#[60, 61]⟩, .string ⟨#[62]⟩, .string ⟨#[62, 61]⟩] 9))
  have HS := Lib.hid (StrsAt.new (((w.alloc (.cells (prgC p) 34)).alloc (.cells (funC f) 43)).alloc (.cells (insC ⟨5, a, b, c, ww, n, sign, aa, an, ac, args⟩) 24)) signsT #[.string ⟨#[43]⟩, .string ⟨#[45]⟩, .string ⟨#[42]⟩, .string ⟨#[47]⟩, .string ⟨#[37]⟩, .string ⟨#[38]⟩, .string ⟨#[124]⟩, .string ⟨#[94]⟩, .string ⟨#[60, 60]⟩, .string ⟨#[62, 62]⟩, .string ⟨#[61, 61]⟩, .string ⟨#[33, 61]⟩, .string ⟨#[60]⟩, .string ⟨#[60, 61]⟩, .string ⟨#[62]⟩, .string ⟨#[62, 61]⟩] 9 (w.heap.size + 3) rfl (by simp))
  unfold prgC funC insC at HS HG0
  unfold prgV funV insV prgC funC insC
  go_enter Tryd.func32, Tryd.ntmps32
  go_wp2_with fail
  refine (sign_any _ _ signsT sign _ HS.out (by decide)).mono ?_
  rintro e w1 ⟨rfl, hg1⟩
  have HG1 := Lib.hid (grownBy_trans HG0.out hg1)
  clear hg1
  go_wp2_with fail
  go_ret
  exact ⟨ret_bool (by simp [sgnB, signsT, betB, unB, Bool.beq_comm]), HG1.out⟩
set_option maxRecDepth 100000 in
set_option maxHeartbeats 4000000 in
theorem oth_6 : Calls Tryd.prog 32 #[prgV p, funV f, insV ⟨6, a, b, c, ww, n, sign, aa, an, ac, args⟩] w fun e w' => e = .returned (.bool (unB sign)) ∧ w.grownBy w' none := by
  have HG0 := Lib.hid (gr_alloc (box3 p f w ⟨6, a, b, c, ww, n, sign, aa, an, ac, args⟩) (.cells #[.string ⟨#[45]⟩, .string ⟨#[126]⟩] 9))
  have HS := Lib.hid (StrsAt.new (((w.alloc (.cells (prgC p) 34)).alloc (.cells (funC f) 43)).alloc (.cells (insC ⟨6, a, b, c, ww, n, sign, aa, an, ac, args⟩) 24)) [[45], [126]] #[.string ⟨#[45]⟩, .string ⟨#[126]⟩] 9 (w.heap.size + 3) rfl (by simp))
  unfold prgC funC insC at HS HG0
  unfold prgV funV insV prgC funC insC
  go_enter Tryd.func32, Tryd.ntmps32
  go_wp2_with fail
  refine (sign_any _ _ [[45], [126]] sign _ HS.out (by decide)).mono ?_
  rintro e w1 ⟨rfl, hg1⟩
  have HG1 := Lib.hid (grownBy_trans HG0.out hg1)
  clear hg1
  go_wp2_with fail
  go_ret
  exact ⟨ret_bool (by simp [sgnB, signsT, betB, unB, Bool.beq_comm]), HG1.out⟩
set_option maxRecDepth 100000 in
set_option maxHeartbeats 4000000 in
theorem oth_7 : Calls Tryd.prog 32 #[prgV p, funV f, insV ⟨7, a, b, c, ww, n, sign, aa, an, ac, args⟩] w fun e w' => e = .returned (.bool (widB ww)) ∧ w.grownBy w' none := by
  unfold prgV funV insV prgC funC insC
  go_enter Tryd.func32, Tryd.ntmps32
  go_wp2_with fail
  all_goals
    go_ret
    first
    | exact ⟨rfl, by repeat (first | with_reducible exact grownBy_refl _ _ | with_reducible assumption | with_reducible refine World.grownBy.gr_drew ?_ | with_reducible refine World.grownBy.gr_set ?_ (by simp) _ | with_reducible refine gr_alloc ?_ _)⟩
    | exact ⟨ret_bool (by unfold widB; simp [*]), by repeat (first | with_reducible exact grownBy_refl _ _ | with_reducible assumption | with_reducible refine World.grownBy.gr_drew ?_ | with_reducible refine World.grownBy.gr_set ?_ (by simp) _ | with_reducible refine gr_alloc ?_ _)⟩
set_option maxRecDepth 100000 in
set_option maxHeartbeats 4000000 in
theorem oth_8 : Calls Tryd.prog 32 #[prgV p, funV f, insV ⟨8, a, b, c, ww, n, sign, aa, an, ac, args⟩] w fun e w' => e = .returned (.bool (widB ww)) ∧ w.grownBy w' none := by
  unfold prgV funV insV prgC funC insC
  go_enter Tryd.func32, Tryd.ntmps32
  go_wp2_with fail
  all_goals
    go_ret
    first
    | exact ⟨rfl, by repeat (first | with_reducible exact grownBy_refl _ _ | with_reducible assumption | with_reducible refine World.grownBy.gr_drew ?_ | with_reducible refine World.grownBy.gr_set ?_ (by simp) _ | with_reducible refine gr_alloc ?_ _)⟩
    | exact ⟨ret_bool (by unfold widB; simp [*]), by repeat (first | with_reducible exact grownBy_refl _ _ | with_reducible assumption | with_reducible refine World.grownBy.gr_drew ?_ | with_reducible refine World.grownBy.gr_set ?_ (by simp) _ | with_reducible refine gr_alloc ?_ _)⟩
set_option maxRecDepth 100000 in
set_option maxHeartbeats 4000000 in
theorem oth_9 : Calls Tryd.prog 32 #[prgV p, funV f, insV ⟨9, a, b, c, ww, n, sign, aa, an, ac, args⟩] w fun e w' => e = .returned (.bool (widB ww)) ∧ w.grownBy w' none := by
  unfold prgV funV insV prgC funC insC
  go_enter Tryd.func32, Tryd.ntmps32
  go_wp2_with fail
  all_goals
    go_ret
    first
    | exact ⟨rfl, by repeat (first | with_reducible exact grownBy_refl _ _ | with_reducible assumption | with_reducible refine World.grownBy.gr_drew ?_ | with_reducible refine World.grownBy.gr_set ?_ (by simp) _ | with_reducible refine gr_alloc ?_ _)⟩
    | exact ⟨ret_bool (by unfold widB; simp [*]), by repeat (first | with_reducible exact grownBy_refl _ _ | with_reducible assumption | with_reducible refine World.grownBy.gr_drew ?_ | with_reducible refine World.grownBy.gr_set ?_ (by simp) _ | with_reducible refine gr_alloc ?_ _)⟩
set_option maxRecDepth 100000 in
set_option maxHeartbeats 4000000 in
theorem oth_10 : Calls Tryd.prog 32 #[prgV p, funV f, insV ⟨10, a, b, c, ww, n, sign, aa, an, ac, args⟩] w fun e w' => e = .returned (.bool (inB n 4097)) ∧ w.grownBy w' none := by
  unfold prgV funV insV prgC funC insC
  by_cases h0 : 0 ≤ n
  · by_cases h1 : n ≤ 4096
    · rw [show inB n 4097 = true by unfold inB; simp; omega]
      go_enter Tryd.func32, Tryd.ntmps32
      go_wp2_with fail
      go_ret
      exact ⟨rfl, by repeat (first | with_reducible exact grownBy_refl _ _ | with_reducible assumption | with_reducible refine World.grownBy.gr_drew ?_ | with_reducible refine World.grownBy.gr_set ?_ (by simp) _ | with_reducible refine gr_alloc ?_ _)⟩
    · rw [show inB n 4097 = false by unfold inB; simp; omega]
      go_enter Tryd.func32, Tryd.ntmps32
      go_wp2_with fail
      go_ret
      exact ⟨rfl, by repeat (first | with_reducible exact grownBy_refl _ _ | with_reducible assumption | with_reducible refine World.grownBy.gr_drew ?_ | with_reducible refine World.grownBy.gr_set ?_ (by simp) _ | with_reducible refine gr_alloc ?_ _)⟩
  · rw [show inB n 4097 = false by unfold inB; simp; omega]
    go_enter Tryd.func32, Tryd.ntmps32
    go_wp2_with fail
    go_ret
    exact ⟨rfl, by repeat (first | with_reducible exact grownBy_refl _ _ | with_reducible assumption | with_reducible refine World.grownBy.gr_drew ?_ | with_reducible refine World.grownBy.gr_set ?_ (by simp) _ | with_reducible refine gr_alloc ?_ _)⟩
set_option maxRecDepth 100000 in
set_option maxHeartbeats 4000000 in
theorem oth_17 : Calls Tryd.prog 32 #[prgV p, funV f, insV ⟨17, a, b, c, ww, n, sign, aa, an, ac, args⟩] w fun e w' => e = .returned (.bool (inB n f.code.length)) ∧ w.grownBy w' none := by
  unfold prgV funV insV prgC funC insC
  generalize f.code.length = m
  by_cases h0 : 0 ≤ n
  · by_cases h1 : n < (m : Int)
    · rw [show inB n (m : Int) = true by unfold inB; simp; omega]
      go_enter Tryd.func32, Tryd.ntmps32
      go_wp2_with fail
      go_ret
      exact ⟨rfl, by repeat (first | with_reducible exact grownBy_refl _ _ | with_reducible assumption | with_reducible refine World.grownBy.gr_drew ?_ | with_reducible refine World.grownBy.gr_set ?_ (by simp) _ | with_reducible refine gr_alloc ?_ _)⟩
    · rw [show inB n (m : Int) = false by unfold inB; simp; omega]
      go_enter Tryd.func32, Tryd.ntmps32
      go_wp2_with fail
      go_ret
      exact ⟨rfl, by repeat (first | with_reducible exact grownBy_refl _ _ | with_reducible assumption | with_reducible refine World.grownBy.gr_drew ?_ | with_reducible refine World.grownBy.gr_set ?_ (by simp) _ | with_reducible refine gr_alloc ?_ _)⟩
  · rw [show inB n (m : Int) = false by unfold inB; simp; omega]
    go_enter Tryd.func32, Tryd.ntmps32
    go_wp2_with fail
    go_ret
    exact ⟨rfl, by repeat (first | with_reducible exact grownBy_refl _ _ | with_reducible assumption | with_reducible refine World.grownBy.gr_drew ?_ | with_reducible refine World.grownBy.gr_set ?_ (by simp) _ | with_reducible refine gr_alloc ?_ _)⟩
set_option maxRecDepth 100000 in
set_option maxHeartbeats 4000000 in
theorem oth_18 : Calls Tryd.prog 32 #[prgV p, funV f, insV ⟨18, a, b, c, ww, n, sign, aa, an, ac, args⟩] w fun e w' => e = .returned (.bool (inB n f.code.length)) ∧ w.grownBy w' none := by
  unfold prgV funV insV prgC funC insC
  generalize f.code.length = m
  by_cases h0 : 0 ≤ n
  · by_cases h1 : n < (m : Int)
    · rw [show inB n (m : Int) = true by unfold inB; simp; omega]
      go_enter Tryd.func32, Tryd.ntmps32
      go_wp2_with fail
      go_ret
      exact ⟨rfl, by repeat (first | with_reducible exact grownBy_refl _ _ | with_reducible assumption | with_reducible refine World.grownBy.gr_drew ?_ | with_reducible refine World.grownBy.gr_set ?_ (by simp) _ | with_reducible refine gr_alloc ?_ _)⟩
    · rw [show inB n (m : Int) = false by unfold inB; simp; omega]
      go_enter Tryd.func32, Tryd.ntmps32
      go_wp2_with fail
      go_ret
      exact ⟨rfl, by repeat (first | with_reducible exact grownBy_refl _ _ | with_reducible assumption | with_reducible refine World.grownBy.gr_drew ?_ | with_reducible refine World.grownBy.gr_set ?_ (by simp) _ | with_reducible refine gr_alloc ?_ _)⟩
  · rw [show inB n (m : Int) = false by unfold inB; simp; omega]
    go_enter Tryd.func32, Tryd.ntmps32
    go_wp2_with fail
    go_ret
    exact ⟨rfl, by repeat (first | with_reducible exact grownBy_refl _ _ | with_reducible assumption | with_reducible refine World.grownBy.gr_drew ?_ | with_reducible refine World.grownBy.gr_set ?_ (by simp) _ | with_reducible refine gr_alloc ?_ _)⟩
set_option maxRecDepth 100000 in
set_option maxHeartbeats 4000000 in
theorem oth_16 (hn : an = args.length) : Calls Tryd.prog 32 #[prgV p, funV f, insV ⟨16, a, b, c, ww, n, sign, aa, an, ac, args⟩] w fun e w' => e = .returned (.bool (decide (args.length ≤ 6))) ∧ w.grownBy w' none := by
  subst hn
  unfold prgV funV insV prgC funC insC
  generalize args.length = k
  go_enter Tryd.func32, Tryd.ntmps32
  go_wp2_with fail
  go_ret
  exact ⟨ret_bool (by rw [decide_eq_decide]; omega), by repeat (first | with_reducible exact grownBy_refl _ _ | with_reducible assumption | with_reducible refine World.grownBy.gr_drew ?_ | with_reducible refine World.grownBy.gr_set ?_ (by simp) _ | with_reducible refine gr_alloc ?_ _)⟩
set_option maxRecDepth 100000 in
set_option maxHeartbeats 4000000 in
theorem oth_15 (hp : PrgOk w p) (hn : an = args.length) : Calls Tryd.prog 32 #[prgV p, funV f, insV ⟨15, a, b, c, ww, n, sign, aa, an, ac, args⟩] w fun e w' => e = .returned (.bool (fnB p ⟨15, a, b, c, ww, n, sign, aa, an, ac, args⟩)) ∧ w.grownBy w' none := by
  subst hn
  have hl := hp.2.1
  unfold maxLen at hl
  by_cases h0 : n < 0
  · have hb : inB n (p.fns.length : Int) = false := by unfold inB; simp; omega
    rw [show fnB p ⟨15, a, b, c, ww, n, sign, aa, args.length, ac, args⟩ = false by unfold fnB; simp only []; rw [hb]; rfl]
    have e1 : decide (0 ≤ n) = false := by simpa using h0
    unfold prgV funV insV prgC funC insC
    clear h0 hp hb
    go_enter Tryd.func32, Tryd.ntmps32
    go_wp2_with fail
    go_quiet (fail)
    go_wp2_with fail
    go_ret
    exact ⟨rfl, gr_drewN (by repeat (first | with_reducible exact grownBy_refl _ _ | with_reducible assumption | with_reducible refine World.grownBy.gr_drew ?_ | with_reducible refine World.grownBy.gr_set ?_ (by simp) _ | with_reducible refine gr_alloc ?_ _)) _⟩
  by_cases h1 : (p.fns.length : Int) ≤ n
  · have hb : inB n (p.fns.length : Int) = false := by unfold inB; simp; omega
    rw [show fnB p ⟨15, a, b, c, ww, n, sign, aa, args.length, ac, args⟩ = false by unfold fnB; simp only []; rw [hb]; rfl]
    have e1 : decide (0 ≤ n) = true := by simp; omega
    have e2 : decide (n < (p.fns.length : Int)) = false := by simp; omega
    unfold prgV funV insV prgC funC insC
    clear h0 h1 hp hb
    go_enter Tryd.func32, Tryd.ntmps32
    go_wp2_with fail
    go_quiet (fail)
    go_wp2_with fail
    go_ret
    exact ⟨rfl, gr_drewN (by repeat (first | with_reducible exact grownBy_refl _ _ | with_reducible assumption | with_reducible refine World.grownBy.gr_drew ?_ | with_reducible refine World.grownBy.gr_set ?_ (by simp) _ | with_reducible refine gr_alloc ?_ _)) _⟩
  · obtain ⟨k, hik⟩ : ∃ k : Nat, n = k := ⟨n.toNat, by omega⟩
    subst hik
    have hk : k < p.fns.length := by omega
    have hb : inB (k : Int) (p.fns.length : Int) = true := by unfold inB; simp; omega
    rw [show fnB p ⟨15, a, b, c, ww, k, sign, aa, args.length, ac, args⟩ = (p.fns[k].params == (args.length : Int)) by unfold fnB; simp only []; rw [hb, parOf_in hk]; rfl]
    obtain ⟨ad, ha, _, _, hc, _⟩ := fun_cells (hp.2.2.2.1.keep (CellsK.of (box3 p f w ⟨15, a, b, c, ww, k, sign, aa, args.length, ac, args⟩))) hk
    unfold prgC funC insC at hc
    unfold prgV funV insV prgC funC insC
    generalize p.fns[k] = s at *
    generalize hsa : p.fa = sa at *
    subst ha
    generalize args.length = na at *
    have e1 : decide ((0 : Int) ≤ (k : Int)) = true := by simp
    have e2 : decide ((k : Int) < (p.fns.length : Int)) = true := by simp; omega
    clear hp h0 h1 hsa hb
    go_enter Tryd.func32, Tryd.ntmps32
    go_wp2_with fail
    go_quiet (fail)
    go_wp2_with fail
    go_ret
    exact ⟨ret_bool (by rw [Bool.eq_iff_iff]; simp; exact eq_comm), gr_drewN (by repeat (first | with_reducible exact grownBy_refl _ _ | with_reducible assumption | with_reducible refine World.grownBy.gr_drew ?_ | with_reducible refine World.grownBy.gr_set ?_ (by simp) _ | with_reducible refine gr_alloc ?_ _)) _⟩
set_option maxRecDepth 100000 in
set_option maxHeartbeats 4000000 in
theorem oth_else (op : Int) (h : op ≠ 2 ∧ op ≠ 5 ∧ op ≠ 6 ∧ op ≠ 7 ∧ op ≠ 8 ∧ op ≠ 9 ∧ op ≠ 10 ∧ op ≠ 13 ∧ op ≠ 15 ∧ op ≠ 16 ∧ op ≠ 17 ∧ op ≠ 18) : Calls Tryd.prog 32 #[prgV p, funV f, insV ⟨op, a, b, c, ww, n, sign, aa, an, ac, args⟩] w fun e w' => e = .returned (.bool true) ∧ w.grownBy w' none := by
  have e2 : (op == 2) = false := beq_eq_false_iff_ne.2 (by omega)
  have e5 : (op == 5) = false := beq_eq_false_iff_ne.2 (by omega)
  have e6 : (op == 6) = false := beq_eq_false_iff_ne.2 (by omega)
  have e7 : (op == 7) = false := beq_eq_false_iff_ne.2 (by omega)
  have e8 : (op == 8) = false := beq_eq_false_iff_ne.2 (by omega)
  have e9 : (op == 9) = false := beq_eq_false_iff_ne.2 (by omega)
  have e10 : (op == 10) = false := beq_eq_false_iff_ne.2 (by omega)
  have e13 : (op == 13) = false := beq_eq_false_iff_ne.2 (by omega)
  have e15 : (op == 15) = false := beq_eq_false_iff_ne.2 (by omega)
  have e16 : (op == 16) = false := beq_eq_false_iff_ne.2 (by omega)
  have e17 : (op == 17) = false := beq_eq_false_iff_ne.2 (by omega)
  have e18 : (op == 18) = false := beq_eq_false_iff_ne.2 (by omega)
  clear h
  unfold prgV funV insV prgC funC insC
  go_enter Tryd.func32, Tryd.ntmps32
  go_wp2_with fail
  go_ret
  exact ⟨rfl, by repeat (first | with_reducible exact grownBy_refl _ _ | with_reducible assumption | with_reducible refine World.grownBy.gr_drew ?_ | with_reducible refine World.grownBy.gr_set ?_ (by simp) _ | with_reducible refine gr_alloc ?_ _)⟩
end
theorem Others_any (p : Prg) (f : Fun') (i : Ins) (w : World) (hp : PrgOk w p) (hA : IntsAt w i.aa i.an i.ac i.args) : Calls Tryd.prog 32 #[prgV p, funV f, insV i] w fun e w' => e = .returned (.bool (othB p f i)) ∧ w.grownBy w' none := by
  obtain ⟨op, a, b, c, ww, n, sign, aa, an, ac, args⟩ := i
  have hn : an = args.length := hA.1
  by_cases h : op ≠ 2 ∧ op ≠ 5 ∧ op ≠ 6 ∧ op ≠ 7 ∧ op ≠ 8 ∧ op ≠ 9 ∧ op ≠ 10 ∧ op ≠ 13 ∧ op ≠ 15 ∧ op ≠ 16 ∧ op ≠ 17 ∧ op ≠ 18
  · rw [show othB p f ⟨op, a, b, c, ww, n, sign, aa, an, ac, args⟩ = true by unfold othB; simp only []; repeat rw [if_neg (by omega)]]
    exact oth_else p f a b c ww n sign aa an ac args w op h
  · have hk : op = 2 ∨ op = 5 ∨ op = 6 ∨ op = 7 ∨ op = 8 ∨ op = 9 ∨ op = 10 ∨ op = 13 ∨ op = 15 ∨ op = 16 ∨ op = 17 ∨ op = 18 := by omega
    clear h
    rcases hk with rfl | rfl | rfl | rfl | rfl | rfl | rfl | rfl | rfl | rfl | rfl | rfl
    · exact oth_2 p f a b c ww n sign aa an ac args w hp
    · exact oth_5 p f a b c ww n sign aa an ac args w
    · exact oth_6 p f a b c ww n sign aa an ac args w
    · exact oth_7 p f a b c ww n sign aa an ac args w
    · exact oth_8 p f a b c ww n sign aa an ac args w
    · exact oth_9 p f a b c ww n sign aa an ac args w
    · exact oth_10 p f a b c ww n sign aa an ac args w
    · exact oth_13 p f a b c ww n sign aa an ac args w hp
    · exact oth_15 p f a b c ww n sign aa an ac args w hp hn
    · exact oth_16 p f a b c ww n sign aa an ac args w hn
    · exact oth_17 p f a b c ww n sign aa an ac args w
    · exact oth_18 p f a b c ww n sign aa an ac args w

end Go.Proofs.YtdknclhbnhiojaaDoor
