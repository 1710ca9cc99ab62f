/- ir: operand. -/
import Derived.Test.YtdknclhbnhiojaaDoorI13
namespace Go.Proofs.YtdknclhbnhiojaaDoor
open Go.RowKit
def parOf (p : Prg) (n : Int) : Int := if 0 ≤ n then (p.fns[n.toNat]?.map (·.params)).getD 0 else 0
theorem parOf_in {p : Prg} {k : Nat} (h : k < p.fns.length) : parOf p k = p.fns[k].params := by
  unfold parOf
  rw [if_pos (by omega)]
  simp [h]
def unB (s : ByteArray) : Bool := (s.toList == [45]) || (s.toList == [126])
def widB (x : Int) : Bool := (x == 1) || (x == 4) || (x == 8)
def fnB (p : Prg) (i : Ins) : Bool := inB i.n p.fns.length && (parOf p i.n == (i.args.length : Int))
def opdB (p : Prg) (f : Fun') (i : Ins) (c : Int) : Bool :=
  if c = 115 then kindP p i.b != 0 else if c = 104 then kindP p i.n == 3 else if c = 102 then fnB p i else if c = 54 then decide (i.args.length ≤ 6) else if c = 119 then widB i.w
  else if c = 110 then inB i.n 4097 else if c = 106 then inB i.n f.code.length else if c = 49 then unB i.sign else if c = 50 then betB i.sign else true
section
variable (p : Prg) (f : Fun') (i : Ins) (w : World)
set_option maxRecDepth 100000 in
set_option maxHeartbeats 4000000 in
theorem opd_s (hp : PrgOk w p) : Calls Tryd.prog 36 #[prgV p, funV f, insV i, .int .i32 115] w fun e w' => e = .returned (.bool (kindP p i.b != 0)) ∧ w.grownBy w' none := by
  have hl := hp.1
  have HP := Lib.hid hp
  unfold prgV funV insV prgC funC insC
  by_cases h1 : i.b < 0 ∨ (p.sites.length : Int) ≤ i.b
  · rw [kindP_out h1]
    have HB := Lib.hid (show inB i.b (p.sites.length : Int) = false by unfold inB; simp; omega)
    clear h1 hp
    go_enter Tryd.func36, Tryd.ntmps36
    go_wp2_with fail
    refine (within_any _ _ _).mono ?_
    rintro e w1 ⟨rfl, rfl⟩
    rw [HB.out]
    go_wp2_with fail
    go_ret
    exact ⟨rfl, by repeat (first | with_reducible exact grownBy_refl _ _ | with_reducible assumption | with_reducible refine World.grownBy.gr_drew ?_ | with_reducible refine World.grownBy.gr_set ?_ (by simp) _ | with_reducible refine gr_alloc ?_ _)⟩
  · obtain ⟨k, hik⟩ : ∃ k : Nat, i.b = k := ⟨i.b.toNat, by omega⟩
    have hk : k < p.sites.length := by omega
    rw [hik]
    have HB := Lib.hid (show inB (k : Int) (p.sites.length : Int) = true by unfold inB; simp; omega)
    rw [kindP_in hk]
    obtain ⟨ad, ha, hc, _⟩ := sit_cells (hp.2.2.1.keep (CellsK.of (show w.grownBy (((w.alloc (.cells (prgC p) 34)).alloc (.cells (funC f) 43)).alloc (.cells (insC i) 24)) none by repeat (first | with_reducible exact grownBy_refl _ _ | with_reducible assumption | with_reducible refine World.grownBy.gr_drew ?_ | with_reducible refine World.grownBy.gr_set ?_ (by simp) _ | with_reducible refine gr_alloc ?_ _)))) hk
    unfold prgC funC insC at hc
    rw [hik] at hc
    generalize p.sites[k] = s at *
    generalize hsa : p.sa = sa at *
    subst ha
    clear hp h1 hik hsa
    go_enter Tryd.func36, Tryd.ntmps36
    go_wp2_with fail
    refine (within_any _ _ _).mono ?_
    rintro e w1 ⟨rfl, rfl⟩
    rw [HB.out]
    go_wp2_with fail
    go_ret
    exact ⟨rfl, by repeat (first | with_reducible exact grownBy_refl _ _ | with_reducible assumption | with_reducible refine World.grownBy.gr_drew ?_ | with_reducible refine World.grownBy.gr_set ?_ (by simp) _ | with_reducible refine gr_alloc ?_ _)⟩
set_option maxRecDepth 100000 in
set_option maxHeartbeats 4000000 in
theorem opd_h (hp : PrgOk w p) : Calls Tryd.prog 36 #[prgV p, funV f, insV i, .int .i32 104] w fun e w' => e = .returned (.bool (kindP p i.n == 3)) ∧ w.grownBy w' none := by
  have HP := Lib.hid hp
  have hg0 : w.grownBy (((w.alloc (.cells (prgC p) 34)).alloc (.cells (funC f) 43)).alloc (.cells (insC i) 24)) none := by repeat (first | with_reducible exact grownBy_refl _ _ | with_reducible assumption | with_reducible refine World.grownBy.gr_drew ?_ | with_reducible refine World.grownBy.gr_set ?_ (by simp) _ | with_reducible refine gr_alloc ?_ _)
  have HG0 := Lib.hid hg0
  have HC := Lib.hid (isSite_any p i.n 3 (by decide) _ (hp.keep (CellsK.of hg0)))
  clear hp hg0
  unfold prgV prgC funC insC at HC
  unfold prgV funV insV prgC funC insC
  unfold prgC funC insC at HG0
  go_enter Tryd.func36, Tryd.ntmps36
  go_wp2_with fail
  refine (HC.out).mono ?_
  rintro e w1 ⟨rfl, hg1⟩
  have HG1 := Lib.hid (grownBy_trans HG0.out hg1)
  clear hg1
  go_wp2_with fail
  go_ret
  exact ⟨rfl, HG1.out⟩
set_option maxRecDepth 100000 in
set_option maxHeartbeats 4000000 in
theorem opd_f (hp : PrgOk w p) (hA : IntsAt w i.aa i.an i.ac i.args) : Calls Tryd.prog 36 #[prgV p, funV f, insV i, .int .i32 102] w fun e w' => e = .returned (.bool (fnB p i)) ∧ w.grownBy w' none := by
  have hl := hp.2.1
  have hn : i.an = i.args.length := hA.1
  clear hA
  by_cases h1 : i.n < 0 ∨ (p.fns.length : Int) ≤ i.n
  · have hb : inB i.n (p.fns.length : Int) = false := by unfold inB; simp; omega
    rw [show fnB p i = false by unfold fnB; rw [hb]; rfl]
    have HB := Lib.hid (fun W => show Calls Tryd.prog 34 #[.int .i64 i.n, .int .i64 (p.fns.length : Int)] W (fun e w' => e = .returned (.bool false) ∧ w' = W) from (within64_any i.n p.fns.length W).mono fun e w' ⟨he, hw⟩ => ⟨by rw [he, hb], hw.symm⟩)
    unfold prgV funV insV prgC funC insC
    clear h1 hp hb hn
    go_enter Tryd.func36, Tryd.ntmps36
    go_wp2_with fail
    go_quiet ((go_at_call 34; exact Calls.quiet_of_same (HB.out _)))
    go_wp2_with fail
    go_ret
    exact ⟨rfl, gr_drewN (by repeat (first | with_reducible exact grownBy_refl _ _ | with_reducible assumption | with_reducible refine World.grownBy.gr_drew ?_ | with_reducible refine World.grownBy.gr_set ?_ (by simp) _ | with_reducible refine gr_alloc ?_ _)) _⟩
  · obtain ⟨k, hik⟩ : ∃ k : Nat, i.n = k := ⟨i.n.toNat, by omega⟩
    have hk : k < p.fns.length := by omega
    have hb : inB (k : Int) (p.fns.length : Int) = true := by unfold inB; simp; omega
    have HB := Lib.hid (fun W => show Calls Tryd.prog 34 #[.int .i64 (k : Int), .int .i64 (p.fns.length : Int)] W (fun e w' => e = .returned (.bool true) ∧ w' = W) from (within64_any k p.fns.length W).mono fun e w' ⟨he, hw⟩ => ⟨by rw [he, hb], hw.symm⟩)
    rw [show fnB p i = (p.fns[k].params == (i.args.length : Int)) by unfold fnB; rw [hik, hb, parOf_in hk]; rfl]
    obtain ⟨ad, ha, _, _, hc, _⟩ := fun_cells (hp.2.2.2.1.keep (CellsK.of (show w.grownBy (((w.alloc (.cells (prgC p) 34)).alloc (.cells (funC f) 43)).alloc (.cells (insC i) 24)) none by repeat (first | with_reducible exact grownBy_refl _ _ | with_reducible assumption | with_reducible refine World.grownBy.gr_drew ?_ | with_reducible refine World.grownBy.gr_set ?_ (by simp) _ | with_reducible refine gr_alloc ?_ _)))) hk
    unfold prgC funC insC at hc
    unfold prgV funV insV prgC funC insC
    rw [hik, hn] at hc
    rw [hik, hn]
    generalize p.fns[k] = s at *
    generalize hsa : p.fa = sa at *
    subst ha
    generalize i.args.length = na at *
    clear hp h1 hik hsa hb hn
    go_enter Tryd.func36, Tryd.ntmps36
    go_wp2_with fail
    go_quiet ((go_at_call 34; exact Calls.quiet_of_same (HB.out _)))
    go_wp2_with fail
    go_ret
    exact ⟨rfl, gr_drewN (by repeat (first | with_reducible exact grownBy_refl _ _ | with_reducible assumption | with_reducible refine World.grownBy.gr_drew ?_ | with_reducible refine World.grownBy.gr_set ?_ (by simp) _ | with_reducible refine gr_alloc ?_ _)) _⟩
set_option maxRecDepth 100000 in
set_option maxHeartbeats 4000000 in
theorem opd_6 (hA : IntsAt w i.aa i.an i.ac i.args) : Calls Tryd.prog 36 #[prgV p, funV f, insV i, .int .i32 54] w fun e w' => e = .returned (.bool (decide (i.args.length ≤ 6))) ∧ w.grownBy w' none := by
  have hn : i.an = i.args.length := hA.1
  unfold prgV funV insV prgC funC insC
  rw [hn]
  clear hn hA
  generalize i.args.length = k
  go_enter Tryd.func36, Tryd.ntmps36
  go_wp2_with fail
  go_ret
  exact ⟨ret_bool (by rw [decide_eq_decide]; omega), by repeat (first | with_reducible exact grownBy_refl _ _ | with_reducible assumption | with_reducible refine World.grownBy.gr_drew ?_ | with_reducible refine World.grownBy.gr_set ?_ (by simp) _ | with_reducible refine gr_alloc ?_ _)⟩
set_option maxRecDepth 100000 in
set_option maxHeartbeats 4000000 in
theorem opd_w : Calls Tryd.prog 36 #[prgV p, funV f, insV i, .int .i32 119] w fun e w' => e = .returned (.bool (widB i.w)) ∧ w.grownBy w' none := by
  unfold prgV funV insV prgC funC insC
  generalize i.w = ww
  go_enter Tryd.func36, Tryd.ntmps36
  go_wp2_with fail
  all_goals
    go_ret
    first
    | exact ⟨rfl, by repeat (first | with_reducible exact grownBy_refl _ _ | with_reducible assumption | with_reducible refine World.grownBy.gr_drew ?_ | with_reducible refine World.grownBy.gr_set ?_ (by simp) _ | with_reducible refine gr_alloc ?_ _)⟩
    | exact ⟨ret_bool (by unfold widB; simp [*]), by repeat (first | with_reducible exact grownBy_refl _ _ | with_reducible assumption | with_reducible refine World.grownBy.gr_drew ?_ | with_reducible refine World.grownBy.gr_set ?_ (by simp) _ | with_reducible refine gr_alloc ?_ _)⟩
set_option maxRecDepth 100000 in
set_option maxHeartbeats 4000000 in
theorem opd_n : Calls Tryd.prog 36 #[prgV p, funV f, insV i, .int .i32 110] w fun e w' => e = .returned (.bool (inB i.n 4097)) ∧ w.grownBy w' none := by
  unfold prgV funV insV prgC funC insC
  by_cases h0 : 0 ≤ i.n
  · by_cases h1 : i.n ≤ 4096
    · rw [show inB i.n 4097 = true by unfold inB; simp; omega]
      go_enter Tryd.func36, Tryd.ntmps36
      go_wp2_with fail
      go_ret
      exact ⟨rfl, by repeat (first | with_reducible exact grownBy_refl _ _ | with_reducible assumption | with_reducible refine World.grownBy.gr_drew ?_ | with_reducible refine World.grownBy.gr_set ?_ (by simp) _ | with_reducible refine gr_alloc ?_ _)⟩
    · rw [show inB i.n 4097 = false by unfold inB; simp; omega]
      go_enter Tryd.func36, Tryd.ntmps36
      go_wp2_with fail
      go_ret
      exact ⟨rfl, by repeat (first | with_reducible exact grownBy_refl _ _ | with_reducible assumption | with_reducible refine World.grownBy.gr_drew ?_ | with_reducible refine World.grownBy.gr_set ?_ (by simp) _ | with_reducible refine gr_alloc ?_ _)⟩
  · rw [show inB i.n 4097 = false by unfold inB; simp; omega]
    go_enter Tryd.func36, Tryd.ntmps36
    go_wp2_with fail
    go_ret
    exact ⟨rfl, by repeat (first | with_reducible exact grownBy_refl _ _ | with_reducible assumption | with_reducible refine World.grownBy.gr_drew ?_ | with_reducible refine World.grownBy.gr_set ?_ (by simp) _ | with_reducible refine gr_alloc ?_ _)⟩
set_option maxRecDepth 100000 in
set_option maxHeartbeats 4000000 in
theorem opd_j : Calls Tryd.prog 36 #[prgV p, funV f, insV i, .int .i32 106] w fun e w' => e = .returned (.bool (inB i.n f.code.length)) ∧ w.grownBy w' none := by
  unfold prgV funV insV prgC funC insC
  go_enter Tryd.func36, Tryd.ntmps36
  go_wp2_with fail
  refine (within64_any _ _ _).mono ?_
  rintro e w1 ⟨rfl, rfl⟩
  go_wp2_with fail
  go_ret
  exact ⟨rfl, by repeat (first | with_reducible exact grownBy_refl _ _ | with_reducible assumption | with_reducible refine World.grownBy.gr_drew ?_ | with_reducible refine World.grownBy.gr_set ?_ (by simp) _ | with_reducible refine gr_alloc ?_ _)⟩
set_option maxRecDepth 100000 in
set_option maxHeartbeats 4000000 in
theorem opd_1 : Calls Tryd.prog 36 #[prgV p, funV f, insV i, .int .i32 49] w fun e w' => e = .returned (.bool (unB i.sign)) ∧ w.grownBy w' none := by
  unfold prgV funV insV prgC funC insC
  generalize i.sign = ss
  go_enter Tryd.func36, Tryd.ntmps36
  go_wp2_with fail
  all_goals
    go_ret
    first
    | exact ⟨rfl, by repeat (first | with_reducible exact grownBy_refl _ _ | with_reducible assumption | with_reducible refine World.grownBy.gr_drew ?_ | with_reducible refine World.grownBy.gr_set ?_ (by simp) _ | with_reducible refine gr_alloc ?_ _)⟩
    | exact ⟨ret_bool (by unfold unB; simp [*]), by repeat (first | with_reducible exact grownBy_refl _ _ | with_reducible assumption | with_reducible refine World.grownBy.gr_drew ?_ | with_reducible refine World.grownBy.gr_set ?_ (by simp) _ | with_reducible refine gr_alloc ?_ _)⟩
set_option maxRecDepth 100000 in
set_option maxHeartbeats 4000000 in
theorem opd_2 : Calls Tryd.prog 36 #[prgV p, funV f, insV i, .int .i32 50] w fun e w' => e = .returned (.bool (betB i.sign)) ∧ w.grownBy w' none := by
  unfold prgV funV insV prgC funC insC
  go_enter Tryd.func36, Tryd.ntmps36
  go_wp2_with fail
  refine (between_any _ _).mono ?_
  rintro e w1 ⟨rfl, rfl⟩
  go_wp2_with fail
  go_ret
  exact ⟨rfl, by repeat (first | with_reducible exact grownBy_refl _ _ | with_reducible assumption | with_reducible refine World.grownBy.gr_drew ?_ | with_reducible refine World.grownBy.gr_set ?_ (by simp) _ | with_reducible refine gr_alloc ?_ _)⟩
set_option maxRecDepth 100000 in
set_option maxHeartbeats 4000000 in
theorem opd_else (c : Int) (h : c ≠ 115 ∧ c ≠ 104 ∧ c ≠ 102 ∧ c ≠ 54 ∧ c ≠ 119 ∧ c ≠ 110 ∧ c ≠ 106 ∧ c ≠ 49 ∧ c ≠ 50) : Calls Tryd.prog 36 #[prgV p, funV f, insV i, .int .i32 c] w fun e w' => e = .returned (.bool true) ∧ w.grownBy w' none := by
  have e1 : (c == 115) = false := beq_eq_false_iff_ne.2 h.1
  have e2 : (c == 104) = false := beq_eq_false_iff_ne.2 h.2.1
  have e3 : (c == 102) = false := beq_eq_false_iff_ne.2 h.2.2.1
  have e4 : (c == 54) = false := beq_eq_false_iff_ne.2 h.2.2.2.1
  have e5 : (c == 119) = false := beq_eq_false_iff_ne.2 h.2.2.2.2.1
  have e6 : (c == 110) = false := beq_eq_false_iff_ne.2 h.2.2.2.2.2.1
  have e7 : (c == 106) = false := beq_eq_false_iff_ne.2 h.2.2.2.2.2.2.1
  have e8 : (c == 49) = false := beq_eq_false_iff_ne.2 h.2.2.2.2.2.2.2.1
  have e9 : (c == 50) = false := beq_eq_false_iff_ne.2 h.2.2.2.2.2.2.2.2
  unfold prgV funV insV prgC funC insC
  clear h
  go_enter Tryd.func36, Tryd.ntmps36
  go_wp2_with fail
  go_ret
  exact ⟨rfl, by repeat (first | with_reducible exact grownBy_refl _ _ | with_reducible assumption | with_reducible refine World.grownBy.gr_drew ?_ | with_reducible refine World.grownBy.gr_set ?_ (by simp) _ | with_reducible refine gr_alloc ?_ _)⟩
theorem operand_any (c : Int) (hp : PrgOk w p) (hA : IntsAt w i.aa i.an i.ac i.args) : Calls Tryd.prog 36 #[prgV p, funV f, insV i, .int .i32 c] w fun e w' => e = .returned (.bool (opdB p f i c)) ∧ w.grownBy w' none := by
  unfold opdB
  split
  · rename_i h; subst h; exact opd_s p f i w hp
  split
  · rename_i h; subst h; exact opd_h p f i w hp
  split
  · rename_i h; subst h; exact opd_f p f i w hp hA
  split
  · rename_i h; subst h; exact opd_6 p f i w hA
  split
  · rename_i h; subst h; exact opd_w p f i w
  split
  · rename_i h; subst h; exact opd_n p f i w
  split
  · rename_i h; subst h; exact opd_j p f i w
  split
  · rename_i h; subst h; exact opd_1 p f i w
  split
  · rename_i h; subst h; exact opd_2 p f i w
  · exact opd_else p f i w c ⟨by assumption, by assumption, by assumption, by assumption, by assumption, by assumption, by assumption, by assumption, by assumption⟩
end

end Go.Proofs.YtdknclhbnhiojaaDoor
