/- The document's Insn, walked. -/
import Derived.Test.YtdknclhbnhiojaaDoorI21
namespace Go.Proofs.YtdknclhbnhiojaaDoor
open Go.RowKit
def regL (i : Ins) : List Int := readsI i ++ (if wrB i.op then [i.a] else [])
theorem regL_all (f : Fun') (i : Ins) : allB f.regs (regL i) = (allB f.regs (readsI i) && (!(wrB i.op) || inB i.a f.regs)) := by
  unfold regL allB
  rw [List.all_append]
  cases wrB i.op <;> simp
theorem insE_out {p : Prg} {f : Fun'} {k : Nat} {i : Ins} (h : i.op < 1 ∨ 20 < i.op) : insE p f k i = 1 := by unfold insE; rw [if_pos (rowL_em h)]
theorem insE_bad {p : Prg} {f : Fun'} {k : Nat} {i : Ins} (h1 : 1 ≤ i.op) (h2 : i.op ≤ 20) (h : allB f.regs (regL i) = false ∨ othB p f i = false ∨ allB f.code.length (nextI i ((k : Int) + 1)) = false) : insE p f k i = 8 := by
  unfold insE
  rw [if_neg (rowL_ne h1 h2), ops_split p f i h1 h2, if_neg]
  intro hh
  rw [regL_all] at h
  simp only [Bool.and_eq_true] at hh
  rcases h with h | h | h
  · rw [hh.1.1, hh.1.2.1] at h; cases h
  · rw [hh.1.2.2] at h; cases h
  · rw [hh.2] at h; cases h
theorem insE_good {p : Prg} {f : Fun'} {k : Nat} {i : Ins} (h1 : 1 ≤ i.op) (h2 : i.op ≤ 20) (ha : allB f.regs (regL i) = true) (hb : othB p f i = true) (hc : allB f.code.length (nextI i ((k : Int) + 1)) = true) : insE p f k i = 0 := by
  unfold insE
  rw [if_neg (rowL_ne h1 h2), ops_split p f i h1 h2, if_pos]
  rw [regL_all, Bool.and_eq_true] at ha
  rw [ha.1, ha.2, hb, hc]
  rfl
theorem regL_len (i : Ins) (h : i.args.length * 8 ≤ 140737488351232) : ((readsI i).length + 1) * 8 ≤ 140737488355328 := by
  have hr : (readsI i).length ≤ i.args.length + 3 := by
    rw [readsI_tab]; unfold tabR; repeat' split
    all_goals (simp; try omega)
  omega
structure InBox (p : Prg) (f : Fun') (i : Ins) (b : Nat) (w0 w : World) : Prop where
  hp : BoxC (prgC p) 34 b w
  hf : BoxC (funC f) 43 (b + 1) w
  hi : BoxI i (b + 2) w
  g : w0.grownBy w none
theorem InBox.gr {p : Prg} {f : Fun'} {i : Ins} {b : Nat} {w0 w w' : World} (h : InBox p f i b w0 w) (g : w.grownBy w' none) : InBox p f i b w0 w' := ⟨h.hp.gr g, h.hf.gr g, h.hi.gr g, grownBy_trans h.g g⟩
theorem InBox.new (p : Prg) (f : Fun') (i : Ins) (w : World) : InBox p f i w.heap.size w (((w.alloc (.cells (prgC p) 34)).alloc (.cells (funC f) 43)).alloc (.cells (insC i) 24)) := by
  have h := OpBox.new p f i w
  exact ⟨h.p, h.f, h.i, by repeat (first | with_reducible exact grownBy_refl _ _ | with_reducible assumption | with_reducible refine World.grownBy.gr_drew ?_ | with_reducible refine World.grownBy.gr_set ?_ (by simp) _ | with_reducible refine gr_alloc ?_ _)⟩
/-- Ahead of a round over a list of ints. -/
def LpRel (p : Prg) (f : Fun') (i : Ins) (w : World) (m : Int) (A : Option Addr) (n c : Nat) (l : List Int) (v : Value) (wr : World) : Prop :=
  ∃ k : Nat, k ≤ l.length ∧ v = .int .i64 k ∧ allB m (l.take k) = true ∧ InBox p f i w.heap.size w wr ∧ IntsAt wr A n c l
theorem own_base {w : World} {base base' : Nat} {e : TypeId} {size n : Nat} {v : Value} {xs : List Value} (h : w.ownsRow base e size v n xs) (hb : base' ≤ base) : w.ownsRow base' e size v n xs :=
  ⟨h.1, h.2.imp id fun ⟨g, cap, cur, hv, hg, r⟩ => ⟨g, cap, cur, hv, by omega, r⟩⟩
theorem InBox.own {p : Prg} {f : Fun'} {i : Ins} {b : Nat} {w0 w w' : World} {r : Option Nat} (h : InBox p f i b w0 w) (hb : w0.heap.size ≤ b) (g : w.grownBy w' r) (hr : ∀ k, r = some k → b + 3 ≤ k) : InBox p f i b w0 w' := by
  have hk : ∀ j, j < w.heap.size → j < b + 3 → w'.heap[j]? = w.heap[j]? := fun j hj hj2 => g.block j hj (fun e => by have := hr _ e.symm; omega)
  exact ⟨(hk _ (lt_of_heap h.hp) (by omega)).trans h.hp, (hk _ (lt_of_heap h.hf) (by omega)).trans h.hf, (hk _ (lt_of_heap h.hi) (by omega)).trans h.hi, gr_own h.g g (fun k e => by have := hr _ e; omega)⟩
theorem allB_take {m : Int} {l : List Int} {k : Nat} (hk : k < l.length) (h : allB m (l.take k) = true) : allB m (l.take (k + 1)) = inB l[k] m := by
  rw [List.take_succ_eq_append_getElem hk]
  unfold allB at h ⊢
  rw [List.all_append, h]
  simp
theorem allB_no {m : Int} {l : List Int} {k : Nat} (hk : k < l.length) (h : inB l[k] m = false) : allB m l = false := List.all_eq_false.2 ⟨_, List.getElem_mem hk, by simp [h]⟩
set_option maxRecDepth 100000 in
set_option maxHeartbeats 16000000 in
theorem Insn_in (p : Prg) (f : Fun') (pc : Nat) (hk : pc < f.code.length) (w : World) (hp : PrgOk w p) (hf : FunOk w f) (h1 : 1 ≤ f.code[pc].op) (h2 : f.code[pc].op ≤ 20) :
    Calls Tryd.prog 27 #[prgV p, funV f, .int .i64 pc] w fun e w' => e = .returned (.int .i64 (insE p f pc f.code[pc])) ∧ w.grownBy w' none := by
  have HP := Lib.hid hp
  have HF := Lib.hid hf
  have hlc := hf.2.2.1
  unfold maxLen at hlc
  have HI := Lib.hid (hf.2.2.2.2 _ (List.getElem_mem hk))
  obtain ⟨ad, ha, c0, c1, c2, c3, c4, c5, c6, c7⟩ := ins_cells (hf.2.2.2.1.keep (CellsK.of (show w.grownBy ((w.alloc (.cells (prgC p) 34)).alloc (.cells (funC f) 43)) none by repeat (first | with_reducible exact grownBy_refl _ _ | with_reducible assumption | with_reducible refine World.grownBy.gr_drew ?_ | with_reducible refine World.grownBy.gr_set ?_ (by simp) _ | with_reducible refine gr_alloc ?_ _)))) hk
  have HX0 := Lib.hid (InBox.new p f f.code[pc] w)
  have HBAD := Lib.hid (insE_bad (p := p) (f := f) (k := pc) h1 h2)
  have HGOOD := Lib.hid (insE_good (p := p) (f := f) (k := pc) h1 h2)
  have HQ := Lib.hid (show IntKind.i64.wrap ((pc : Int) + 1) = (pc : Int) + 1 by rw [IntKind.wrap_i64]; omega)
  generalize f.code[pc] = i at *
  have HA := Lib.hid ha
  have HFV := Lib.hid (show funV f = .agg #[.string f.name, .int .i64 f.regs, .int .i64 f.params, .slice f.la f.locals.length f.lc, .slice (some ad) f.code.length f.cc] by unfold funV funC; rw [ha])
  have HFC := Lib.hid (show funC f = #[.string f.name, .int .i64 f.regs, .int .i64 f.params, .slice f.la f.locals.length f.lc, .slice (some ad) f.code.length f.cc] by unfold funC; rw [ha])
  have e1 : decide (i.op < 1) = false := decide_eq_false (by omega)
  have e2 : decide (20 < i.op) = false := decide_eq_false (by omega)
  rw [HFV.out]
  rw [HFC.out] at c0 c1 c2 c3 c4 c5 c6 c7 HX0
  unfold prgC at c0 c1 c2 c3 c4 c5 c6 c7 HX0
  unfold insC at HX0
  unfold prgV prgC
  clear hp hf ha h1 h2
  go_enter Tryd.func27, Tryd.ntmps27
  go_wp2_with fail
  refine (show Calls Tryd.prog 11 #[.agg #[.int .i64 i.op, .int .i64 i.a, .int .i64 i.b, .int .i64 i.c, .int .i64 i.w, .int .i64 i.n, .string i.sign, .slice i.aa i.an i.ac]] _ _ from r8_Reads_own i _ (HI.out.1.keep (CellsK.of HX0.out.g)) (by have := regL_len i HI.out.2; omega)).mono ?_
  rintro e w1 ⟨v, rfl, hown, hg1⟩
  have HX1 := Lib.hid (HX0.out.gr hg1)
  have HO1 := Lib.hid (own_base hown (show w.heap.size + 3 ≤ _ by simp))
  have HRLL := Lib.hid (show (regL i).length ≤ maxLen by
    have h1 := regL_len i HI.out.2
    have h2 : (regL i).length ≤ (readsI i).length + 1 := by unfold regL; split <;> simp
    unfold maxLen; omega)
  clear hown hg1 HX0 c0 c1 c2 c3 c4 c5 c6 c7 e1 e2
  have i0' : w1.cell? ⟨w.heap.size + 1 + 1, 0, none⟩ = some (.int .i64 i.op) := (BoxI.cells HX1.out.hi).1
  have i1' : w1.cell? ⟨w.heap.size + 1 + 1, 1, none⟩ = some (.int .i64 i.a) := (BoxI.cells HX1.out.hi).2.1
  go_wp2_with fail
  refine (r8_writes_any _ _).mono ?_
  rintro e w2 ⟨rfl, rfl⟩
  rcases hwr : wrB i.op
  · have HRL := Lib.hid (show regL i = readsI i by unfold regL; rw [hwr]; simp)
    obtain ⟨A, n, c, rfl, hIn⟩ := IntsAt.of_own HO1.out
    have HL := Lib.hid (show IntsAt w1 A n c (regL i) by rw [HRL.out]; exact hIn)
    have HX3 := HX1
    clear hwr hIn HO1 HRL i0' i1'
    go_wp2_with fail
    obtain rfl : n = (regL i).length := HL.out.1
    go_loopw [9] (fun v wr => LpRel p f i w f.regs A (regL i).length c (regL i) v wr) (fun v _ => (regL i).length - (intOf v).toNat)
    case atStart => exact ⟨0, Nat.zero_le _, rfl, rfl, HX3.out, HL.out⟩
    case round =>
      obtain ⟨k, hkl, rfl, hall, hx, hi⟩ := hrel
      have HAL := Lib.hid hall
      have HX := Lib.hid hx
      have HII := Lib.hid hi
      have hlen : (regL i).length ≤ maxLen := HRLL.out
      unfold maxLen at hlen
      clear hall
      by_cases hlt : k < (regL i).length
      · obtain ⟨ad2, rfl, hc0⟩ := hi.at_ hlt
        have f1 : wr.cell? ⟨w.heap.size + 1, 1, none⟩ = some (.int .i64 f.regs) := (boxF HX.out.hf).2.1
        have HTK := Lib.hid (allB_take hlt HAL.out)
        have HNO := Lib.hid (fun h => allB_no (m := f.regs) hlt h)
        have hxx : ∀ x : Int, x = (regL i)[k] → (x < 0 ∨ f.regs ≤ x → inB x f.regs = false) ∧ (0 ≤ x → x < f.regs → inB x f.regs = true) := fun x _ => ⟨fun h => by unfold inB; simp; omega, fun h h' => by unfold inB; simp; omega⟩
        obtain ⟨hxo, hxi⟩ := hxx _ rfl
        generalize (regL i)[k] = x at *
        have HXO := Lib.hid hxo
        have HXI := Lib.hid hxi
        clear hxx hxo hxi hx hi
        by_cases hx0 : x < 0
        · have e1 : decide (x < 0) = true := decide_eq_true hx0
          have HZ := Lib.hid (HNO.out (HXO.out (.inl hx0)))
          clear hx0
          go_wp2_with fail
          go_quiet (fail)
          go_wp2_with fail
          go_ret
          exact ⟨ret_i64 (a := 8) (HBAD.out (.inl HZ.out)).symm, gr_drewN HX.out.g _⟩
        · by_cases hx1 : f.regs ≤ x
          · have e1 : decide (x < 0) = false := decide_eq_false hx0
            have e2 : decide (f.regs ≤ x) = true := decide_eq_true hx1
            have HZ := Lib.hid (HNO.out (HXO.out (.inr hx1)))
            clear hx0 hx1
            go_wp2_with fail
            go_quiet (fail)
            go_wp2_with fail
            go_ret
            exact ⟨ret_i64 (a := 8) (HBAD.out (.inl HZ.out)).symm, gr_drewN HX.out.g _⟩
          · have e1 : decide (x < 0) = false := decide_eq_false hx0
            have e2 : decide (f.regs ≤ x) = false := decide_eq_false hx1
            have HZ := Lib.hid (HXI.out (by omega) (by omega))
            clear hx0 hx1
            go_wp2_with fail
            go_quiet (fail)
            go_wp2_with fail
            go_roundw
            case rel => exact ⟨k + 1, by omega, by go_num, by rw [HTK.out, HZ.out], HX.out.gr (gr_drewN (grownBy_refl _ _) _), HII.out⟩
            case measure => simp [intOf]; omega
      · have hkk : k = (regL i).length := by omega
        subst hkk
        have HZ := Lib.hid (show allB f.regs (regL i) = true by have h := HAL.out; rwa [List.take_length] at h)
        clear hx hi
        have HZ1 := HZ
        obtain ⟨b0, b1, b2⟩ := boxP HX.out.hp
        obtain ⟨f0, f1, f2, f3, f4⟩ := boxF HX.out.hf
        rw [HA.out] at f4
        obtain ⟨c0, c1, c2, c3, c4, c5, c6, c7⟩ := BoxI.cells (show BoxI i (w.heap.size + 1 + 1) wr from HX.out.hi)
        go_wp2_with fail
        refine (show Calls Tryd.prog 32 #[.agg #[.slice p.sa p.sites.length p.sc, .slice p.fa p.fns.length p.fc, .int .i64 p.main], .agg #[.string f.name, .int .i64 f.regs, .int .i64 f.params, .slice f.la f.locals.length f.lc, .slice (some ad) f.code.length f.cc], .agg #[.int .i64 i.op, .int .i64 i.a, .int .i64 i.b, .int .i64 i.c, .int .i64 i.w, .int .i64 i.n, .string i.sign, .slice i.aa i.an i.ac]] wr _ from by
          have h := Others_any p f i wr (HP.out.keep (CellsK.of HX.out.g)) (HI.out.1.keep (CellsK.of HX.out.g))
          rw [HFV.out] at h
          exact h).mono ?_
        rintro e w5 ⟨rfl, hg5⟩
        have HX5 := Lib.hid (HX.out.gr hg5)
        clear hg5 b0 b1 b2 f0 f1 f2 f3 f4 c0 c1 c2 c3 c4 c5 c6 c7 HX HII HAL
        rcases hoth : othB p f i
        · have HOT := Lib.hid hoth
          clear hoth
          go_wp2_with fail
          go_ret
          exact ⟨ret_i64 (a := 8) (HBAD.out (.inr (.inl HOT.out))).symm, HX5.out.g⟩
        · have HOT := Lib.hid hoth
          clear hoth
          obtain ⟨c0, c1, c2, c3, c4, c5, c6, c7⟩ := BoxI.cells (show BoxI i (w.heap.size + 1 + 1) w5 from HX5.out.hi)
          go_wp2_with fail
          refine (show Calls Tryd.prog 13 #[.agg #[.int .i64 i.op, .int .i64 i.a, .int .i64 i.b, .int .i64 i.c, .int .i64 i.w, .int .i64 i.n, .string i.sign, .slice i.aa i.an i.ac], .int .i64 (pc : Int)] w5 _ from r8_Next_any i pc _ HQ.out w5).mono ?_
          rintro e w7 ⟨A, n, c, rfl, hIn, hg7⟩
          have HX7 := Lib.hid (HX5.out.gr hg7)
          have HL := Lib.hid hIn
          clear hIn hg7 HX5 c0 c1 c2 c3 c4 c5 c6 c7
          go_wp2_with fail
          obtain rfl : n = (nextI i ((pc : Int) + 1)).length := HL.out.1
          go_loopw [10] (fun v wr => LpRel p f i w (f.code.length : Int) A (nextI i ((pc : Int) + 1)).length c (nextI i ((pc : Int) + 1)) v wr) (fun v _ => (nextI i ((pc : Int) + 1)).length - (intOf v).toNat)
          case atStart => exact ⟨0, Nat.zero_le _, rfl, rfl, HX7.out, HL.out⟩
          case round =>
            obtain ⟨k, hkl, rfl, hall, hx, hi⟩ := hrel
            have HAL := Lib.hid hall
            have HX := Lib.hid hx
            have HII := Lib.hid hi
            have hlen : (nextI i ((pc : Int) + 1)).length ≤ maxLen := nextI_len _ _
            unfold maxLen at hlen
            clear hall
            by_cases hlt : k < (nextI i ((pc : Int) + 1)).length
            · obtain ⟨ad2, rfl, hc0⟩ := hi.at_ hlt
              have f4 : wr.cell? ⟨w.heap.size + 1, 4, none⟩ = some (.slice (some ad) f.code.length f.cc) := by have := (boxF HX.out.hf).2.2.2.2; rwa [HA.out] at this
              have HTK := Lib.hid (allB_take hlt HAL.out)
              have HNO := Lib.hid (fun h => allB_no (m := (f.code.length : Int)) hlt h)
              have hxx : ∀ x : Int, x = (nextI i ((pc : Int) + 1))[k] → (x < 0 ∨ (f.code.length : Int) ≤ x → inB x (f.code.length : Int) = false) ∧ (0 ≤ x → x < (f.code.length : Int) → inB x (f.code.length : Int) = true) := fun x _ => ⟨fun h => by unfold inB; simp; omega, fun h h' => by unfold inB; simp; omega⟩
              obtain ⟨hxo, hxi⟩ := hxx _ rfl
              generalize (nextI i ((pc : Int) + 1))[k] = x at *
              have HXO := Lib.hid hxo
              have HXI := Lib.hid hxi
              clear hxx hxo hxi hx hi
              by_cases hx0 : x < 0
              · have e1 : decide (x < 0) = true := decide_eq_true hx0
                have HZ := Lib.hid (HNO.out (HXO.out (.inl hx0)))
                clear hx0
                go_wp2_with fail
                go_quiet (fail)
                go_wp2_with fail
                go_ret
                exact ⟨ret_i64 (a := 8) (HBAD.out (.inr (.inr HZ.out))).symm, gr_drewN HX.out.g _⟩
              · by_cases hx1 : (f.code.length : Int) ≤ x
                · have e1 : decide (x < 0) = false := decide_eq_false hx0
                  have e2 : decide ((f.code.length : Int) ≤ x) = true := decide_eq_true hx1
                  have HZ := Lib.hid (HNO.out (HXO.out (.inr hx1)))
                  clear hx0 hx1
                  go_wp2_with fail
                  go_quiet (fail)
                  go_wp2_with fail
                  go_ret
                  exact ⟨ret_i64 (a := 8) (HBAD.out (.inr (.inr HZ.out))).symm, gr_drewN HX.out.g _⟩
                · have e1 : decide (x < 0) = false := decide_eq_false hx0
                  have e2 : decide ((f.code.length : Int) ≤ x) = false := decide_eq_false hx1
                  have HZ := Lib.hid (HXI.out (by omega) (by omega))
                  clear hx0 hx1
                  go_wp2_with fail
                  go_quiet (fail)
                  go_wp2_with fail
                  go_roundw
                  case rel => exact ⟨k + 1, by omega, by go_num, by rw [HTK.out, HZ.out], HX.out.gr (gr_drewN (grownBy_refl _ _) _), HII.out⟩
                  case measure => simp [intOf]; omega
            · have hkk : k = (nextI i ((pc : Int) + 1)).length := by omega
              subst hkk
              have HZ := Lib.hid (show allB (f.code.length : Int) (nextI i ((pc : Int) + 1)) = true by have h := HAL.out; rwa [List.take_length] at h)
              clear hx hi
              go_wp2_with fail
              go_ret
              exact ⟨ret_i64 (a := 0) (HGOOD.out HZ1.out HOT.out HZ.out).symm, HX.out.g⟩
  · have HRL := Lib.hid (show regL i = readsI i ++ [i.a] by unfold regL; rw [hwr]; simp)
    clear hwr
    have HLN := Lib.hid (regL_len i HI.out.2)
    obtain ⟨i0, hi, hz0, hz1, hz2⟩ := info_parts info3
    go_wp2_with (at_builtin; go_must (refine wpList_append_own _ rfl (.tmp 29) (.tmp 32) 22 rfl (w.heap.size + 3) 3 i0 _ 1 8 Tryd.underlying22 hi hz0 hz1 hz2 rfl (by decide) v (readsI i).length (intsV (readsI i)) rfl (HO1.out.alloc _) ⟨w1.heap.size, 0, none⟩ 1 1 [.int .i64 i.a] rfl rfl ?_ ?_ ?_ ?_ ?_ ?_))
    · intro j u hu
      exact (IntsAt.new w1 [i.a] 3 _ 1 #[.int .i64 i.a] rfl rfl).2.elim (fun h => absurd h.1 (by simp)) (fun ⟨ad3, e3, h3⟩ => by
        obtain rfl := Option.some.inj e3
        rcases j with _ | j
        · obtain rfl : u = .int .i64 i.a := by simpa using hu.symm
          exact h3 0 i.a rfl
        · simp at hu)
    · intro u hu; simp at hu; subst hu; rfl
    · have := HLN.out; unfold maxLen; omega
    · have := HLN.out; omega
    · have := HX1.out.hi; have := lt_of_heap this; simp; omega
    intro v' w4 hown' hgrow _
    have HX3 := Lib.hid ((HX1.out.gr (gr_alloc (grownBy_refl _ _) _)).own (Nat.le_refl _) hgrow (fun k hk => (own_at HO1.out hk).1))
    have HO4 := Lib.hid (show w4.ownsRow (w.heap.size + 3) 3 1 v' (regL i).length (intsV (regL i)) by rw [HRL.out, intsV_append, List.length_append]; exact hown')
    clear hown' hgrow hi hz0 hz1 hz2 HO1 HX1 HRL HLN i0' i1'
    obtain ⟨A, n, c, rfl, hIn⟩ := IntsAt.of_own HO4.out
    have HL := Lib.hid hIn
    clear hIn HO4
    go_wp2_with fail
    obtain rfl : n = (regL i).length := HL.out.1
    go_loopw [9] (fun v wr => LpRel p f i w f.regs A (regL i).length c (regL i) v wr) (fun v _ => (regL i).length - (intOf v).toNat)
    case atStart => exact ⟨0, Nat.zero_le _, rfl, rfl, HX3.out, HL.out⟩
    case round =>
      obtain ⟨k, hkl, rfl, hall, hx, hi⟩ := hrel
      have HAL := Lib.hid hall
      have HX := Lib.hid hx
      have HII := Lib.hid hi
      have hlen : (regL i).length ≤ maxLen := HRLL.out
      unfold maxLen at hlen
      clear hall
      by_cases hlt : k < (regL i).length
      · obtain ⟨ad2, rfl, hc0⟩ := hi.at_ hlt
        have f1 : wr.cell? ⟨w.heap.size + 1, 1, none⟩ = some (.int .i64 f.regs) := (boxF HX.out.hf).2.1
        have HTK := Lib.hid (allB_take hlt HAL.out)
        have HNO := Lib.hid (fun h => allB_no (m := f.regs) hlt h)
        have hxx : ∀ x : Int, x = (regL i)[k] → (x < 0 ∨ f.regs ≤ x → inB x f.regs = false) ∧ (0 ≤ x → x < f.regs → inB x f.regs = true) := fun x _ => ⟨fun h => by unfold inB; simp; omega, fun h h' => by unfold inB; simp; omega⟩
        obtain ⟨hxo, hxi⟩ := hxx _ rfl
        generalize (regL i)[k] = x at *
        have HXO := Lib.hid hxo
        have HXI := Lib.hid hxi
        clear hxx hxo hxi hx hi
        by_cases hx0 : x < 0
        · have e1 : decide (x < 0) = true := decide_eq_true hx0
          have HZ := Lib.hid (HNO.out (HXO.out (.inl hx0)))
          clear hx0
          go_wp2_with fail
          go_quiet (fail)
          go_wp2_with fail
          go_ret
          exact ⟨ret_i64 (a := 8) (HBAD.out (.inl HZ.out)).symm, gr_drewN HX.out.g _⟩
        · by_cases hx1 : f.regs ≤ x
          · have e1 : decide (x < 0) = false := decide_eq_false hx0
            have e2 : decide (f.regs ≤ x) = true := decide_eq_true hx1
            have HZ := Lib.hid (HNO.out (HXO.out (.inr hx1)))
            clear hx0 hx1
            go_wp2_with fail
            go_quiet (fail)
            go_wp2_with fail
            go_ret
            exact ⟨ret_i64 (a := 8) (HBAD.out (.inl HZ.out)).symm, gr_drewN HX.out.g _⟩
          · have e1 : decide (x < 0) = false := decide_eq_false hx0
            have e2 : decide (f.regs ≤ x) = false := decide_eq_false hx1
            have HZ := Lib.hid (HXI.out (by omega) (by omega))
            clear hx0 hx1
            go_wp2_with fail
            go_quiet (fail)
            go_wp2_with fail
            go_roundw
            case rel => exact ⟨k + 1, by omega, by go_num, by rw [HTK.out, HZ.out], HX.out.gr (gr_drewN (grownBy_refl _ _) _), HII.out⟩
            case measure => simp [intOf]; omega
      · have hkk : k = (regL i).length := by omega
        subst hkk
        have HZ := Lib.hid (show allB f.regs (regL i) = true by have h := HAL.out; rwa [List.take_length] at h)
        clear hx hi
        have HZ1 := HZ
        obtain ⟨b0, b1, b2⟩ := boxP HX.out.hp
        obtain ⟨f0, f1, f2, f3, f4⟩ := boxF HX.out.hf
        rw [HA.out] at f4
        obtain ⟨c0, c1, c2, c3, c4, c5, c6, c7⟩ := BoxI.cells (show BoxI i (w.heap.size + 1 + 1) wr from HX.out.hi)
        go_wp2_with fail
        refine (show Calls Tryd.prog 32 #[.agg #[.slice p.sa p.sites.length p.sc, .slice p.fa p.fns.length p.fc, .int .i64 p.main], .agg #[.string f.name, .int .i64 f.regs, .int .i64 f.params, .slice f.la f.locals.length f.lc, .slice (some ad) f.code.length f.cc], .agg #[.int .i64 i.op, .int .i64 i.a, .int .i64 i.b, .int .i64 i.c, .int .i64 i.w, .int .i64 i.n, .string i.sign, .slice i.aa i.an i.ac]] wr _ from by
          have h := Others_any p f i wr (HP.out.keep (CellsK.of HX.out.g)) (HI.out.1.keep (CellsK.of HX.out.g))
          rw [HFV.out] at h
          exact h).mono ?_
        rintro e w5 ⟨rfl, hg5⟩
        have HX5 := Lib.hid (HX.out.gr hg5)
        clear hg5 b0 b1 b2 f0 f1 f2 f3 f4 c0 c1 c2 c3 c4 c5 c6 c7 HX HII HAL
        rcases hoth : othB p f i
        · have HOT := Lib.hid hoth
          clear hoth
          go_wp2_with fail
          go_ret
          exact ⟨ret_i64 (a := 8) (HBAD.out (.inr (.inl HOT.out))).symm, HX5.out.g⟩
        · have HOT := Lib.hid hoth
          clear hoth
          obtain ⟨c0, c1, c2, c3, c4, c5, c6, c7⟩ := BoxI.cells (show BoxI i (w.heap.size + 1 + 1) w5 from HX5.out.hi)
          go_wp2_with fail
          refine (show Calls Tryd.prog 13 #[.agg #[.int .i64 i.op, .int .i64 i.a, .int .i64 i.b, .int .i64 i.c, .int .i64 i.w, .int .i64 i.n, .string i.sign, .slice i.aa i.an i.ac], .int .i64 (pc : Int)] w5 _ from r8_Next_any i pc _ HQ.out w5).mono ?_
          rintro e w7 ⟨A, n, c, rfl, hIn, hg7⟩
          have HX7 := Lib.hid (HX5.out.gr hg7)
          have HL := Lib.hid hIn
          clear hIn hg7 HX5 c0 c1 c2 c3 c4 c5 c6 c7
          go_wp2_with fail
          obtain rfl : n = (nextI i ((pc : Int) + 1)).length := HL.out.1
          go_loopw [10] (fun v wr => LpRel p f i w (f.code.length : Int) A (nextI i ((pc : Int) + 1)).length c (nextI i ((pc : Int) + 1)) v wr) (fun v _ => (nextI i ((pc : Int) + 1)).length - (intOf v).toNat)
          case atStart => exact ⟨0, Nat.zero_le _, rfl, rfl, HX7.out, HL.out⟩
          case round =>
            obtain ⟨k, hkl, rfl, hall, hx, hi⟩ := hrel
            have HAL := Lib.hid hall
            have HX := Lib.hid hx
            have HII := Lib.hid hi
            have hlen : (nextI i ((pc : Int) + 1)).length ≤ maxLen := nextI_len _ _
            unfold maxLen at hlen
            clear hall
            by_cases hlt : k < (nextI i ((pc : Int) + 1)).length
            · obtain ⟨ad2, rfl, hc0⟩ := hi.at_ hlt
              have f4 : wr.cell? ⟨w.heap.size + 1, 4, none⟩ = some (.slice (some ad) f.code.length f.cc) := by have := (boxF HX.out.hf).2.2.2.2; rwa [HA.out] at this
              have HTK := Lib.hid (allB_take hlt HAL.out)
              have HNO := Lib.hid (fun h => allB_no (m := (f.code.length : Int)) hlt h)
              have hxx : ∀ x : Int, x = (nextI i ((pc : Int) + 1))[k] → (x < 0 ∨ (f.code.length : Int) ≤ x → inB x (f.code.length : Int) = false) ∧ (0 ≤ x → x < (f.code.length : Int) → inB x (f.code.length : Int) = true) := fun x _ => ⟨fun h => by unfold inB; simp; omega, fun h h' => by unfold inB; simp; omega⟩
              obtain ⟨hxo, hxi⟩ := hxx _ rfl
              generalize (nextI i ((pc : Int) + 1))[k] = x at *
              have HXO := Lib.hid hxo
              have HXI := Lib.hid hxi
              clear hxx hxo hxi hx hi
              by_cases hx0 : x < 0
              · have e1 : decide (x < 0) = true := decide_eq_true hx0
                have HZ := Lib.hid (HNO.out (HXO.out (.inl hx0)))
                clear hx0
                go_wp2_with fail
                go_quiet (fail)
                go_wp2_with fail
                go_ret
                exact ⟨ret_i64 (a := 8) (HBAD.out (.inr (.inr HZ.out))).symm, gr_drewN HX.out.g _⟩
              · by_cases hx1 : (f.code.length : Int) ≤ x
                · have e1 : decide (x < 0) = false := decide_eq_false hx0
                  have e2 : decide ((f.code.length : Int) ≤ x) = true := decide_eq_true hx1
                  have HZ := Lib.hid (HNO.out (HXO.out (.inr hx1)))
                  clear hx0 hx1
                  go_wp2_with fail
                  go_quiet (fail)
                  go_wp2_with fail
                  go_ret
                  exact ⟨ret_i64 (a := 8) (HBAD.out (.inr (.inr HZ.out))).symm, gr_drewN HX.out.g _⟩
                · have e1 : decide (x < 0) = false := decide_eq_false hx0
                  have e2 : decide ((f.code.length : Int) ≤ x) = false := decide_eq_false hx1
                  have HZ := Lib.hid (HXI.out (by omega) (by omega))
                  clear hx0 hx1
                  go_wp2_with fail
                  go_quiet (fail)
                  go_wp2_with fail
                  go_roundw
                  case rel => exact ⟨k + 1, by omega, by go_num, by rw [HTK.out, HZ.out], HX.out.gr (gr_drewN (grownBy_refl _ _) _), HII.out⟩
                  case measure => simp [intOf]; omega
            · have hkk : k = (nextI i ((pc : Int) + 1)).length := by omega
              subst hkk
              have HZ := Lib.hid (show allB (f.code.length : Int) (nextI i ((pc : Int) + 1)) = true by have h := HAL.out; rwa [List.take_length] at h)
              clear hx hi
              go_wp2_with fail
              go_ret
              exact ⟨ret_i64 (a := 0) (HGOOD.out HZ1.out HOT.out HZ.out).symm, HX.out.g⟩

end Go.Proofs.YtdknclhbnhiojaaDoor
