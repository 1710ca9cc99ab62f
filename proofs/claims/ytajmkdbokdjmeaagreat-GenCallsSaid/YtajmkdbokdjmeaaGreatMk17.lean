/- Merged: Kg1, KgC, Kg2, Kg3, KgN, KgM, KgL. -/
import Derived.Test.YtajmkdbokdjmeaaGreatMk16
/- The laws of gen: what they share. -/
namespace Go.Proofs.YtajmkdbokdjmeaaGreat
open Go.RowKit
theorem othB_of {p : Prg} {f : Fun'} {k : Nat} {i : Ins} (h : insE p f k i = 0) : (∀ x ∈ readsI i, 0 ≤ x ∧ x < f.regs) ∧ othB p f i = true := by
  obtain ⟨h1, h2, h3⟩ := insE_zero h
  obtain ⟨o1, o2⟩ := rowL_range h1
  rw [ops_split p f i o1 o2, Bool.and_eq_true, Bool.and_eq_true] at h2
  exact ⟨fun x hx => inB_iff (List.all_eq_true.1 h2.1 x hx), h2.2.2⟩
theorem docOK_of {p : Prg} (h : GoodP p) : DocOK p := by
  have hf : ∀ f ∈ p.fns, bigB f = false ∧ ∀ i ∈ f.code, ∃ c, insE p f c i = 0 := fun f hf => by
    obtain ⟨j, hj⟩ := List.getElem?_of_mem hf
    obtain ⟨h1, _, h3⟩ := h.fns j f hj
    refine ⟨h1, fun i hi => ?_⟩
    obtain ⟨c, hc⟩ := List.getElem?_of_mem hi
    exact ⟨c, h3 c i hc⟩
  refine ⟨⟨⟨h.nf, fun f hm => ?_⟩, fun f hm i hi => ?_⟩, fun f hm i hi => ?_⟩
  · have := small_of (hf f hm).1
    omega
  · obtain ⟨c, hc⟩ := (hf f hm).2 i hi
    have ho := (othB_of hc).2
    refine ⟨fun e => ?_, fun e => ?_⟩
    · unfold othB at ho
      simp [e] at ho
      unfold fnB at ho
      rw [Bool.and_eq_true] at ho
      obtain ⟨q1, q2⟩ := inB_iff ho.1
      refine ⟨q1, q2, ?_⟩
      have q3 : parOf p i.n = (i.args.length : Int) := by simpa using ho.2
      obtain ⟨N, hN⟩ : ∃ N : Nat, i.n = N := ⟨i.n.toNat, (Int.toNat_of_nonneg q1).symm⟩
      rw [hN] at q2 q3
      have hl : N < p.fns.length := by omega
      rw [parOf_in hl] at q3
      have := small_of (hf _ (List.getElem_mem hl)).1
      omega
    · unfold othB at ho
      simp [e] at ho
      omega
  · obtain ⟨c, hc⟩ := (hf f hm).2 i hi
    have hr := (othB_of hc).1
    intro e
    by_cases ha : i.a = -1
    · omega
    · have : i.a ∈ readsI i := by
        unfold readsI readsS
        rw [e]
        show i.a ∈ [(114 : UInt8)].flatMap fun c => readL i (c.toNat : Int)
        simp [readL, ha]
      have := hr _ this
      omega
set_option maxRecDepth 100000 in
set_option maxHeartbeats 8000000 in
theorem may_any (p : Prg) (w : World) (hp : PrgOk w p) : Calls Tryz.prog 9 #[prgV p] w fun e w' => ∃ b : Bool, e = .returned (.bool b) ∧ (b = true → GoodP p) ∧ w.grownBy w' none := by
  have HP := Lib.hid hp
  have hn := hp.2.1
  unfold maxLen at hn
  have HCK := Lib.hid (show Calls Tryz.prog 18 #[.agg #[.slice p.sa p.sites.length p.sc, .slice p.fa p.fns.length p.fc, .int .i64 p.main]] (w.alloc (.cells (prgC p) 25)) _ from refCheck_any p (w.alloc (.cells (prgC p) 25)) (hp.keep (CellsK.of (gr_alloc (grownBy_refl _ _) _))))
  have HGP := Lib.hid (fun (h : (checkP p).2.2 = 0) => goodP_of h)
  clear hp
  unfold prgV prgC at *
  go_enter Tryz.func9, Tryz.ntmps9
  go_wp2_with fail
  refine HCK.out.mono ?_
  rintro e w1 ⟨rfl, hg1⟩
  have HG1 := Lib.hid (grownBy_trans (gr_alloc (grownBy_refl w none) _) hg1)
  have HB1 := Lib.hid (show BoxC (prgC p) 25 w.heap.size w1 from BoxC.gr (BoxC.new w _ _) hg1)
  obtain ⟨t1, t2, t3, ht⟩ : ∃ t1 t2 t3, checkP p = (t1, t2, t3) := ⟨_, _, _, rfl⟩
  have HT := Lib.hid ht
  rw [ht]
  unfold triV
  clear hg1 ht
  go_wp2_with fail
  go_loopw [6, 7] (fun s i wr => ∃ (k : Nat) (m : Int), k ≤ p.fns.length ∧ i = .int .i64 k ∧ s = .int .i64 m ∧ Hid (w1.grownBy wr none)) (fun s i _ => p.fns.length - (intOf i).toNat)
  case atStart => exact ⟨0, 0, Nat.zero_le _, rfl, rfl, Lib.hid (grownBy_refl _ _)⟩
  case round =>
    obtain ⟨k, m, hk, rfl, rfl, HG⟩ := hrel
    have hbw := HB1.out.gr HG.out
    obtain ⟨b0, b1, b2⟩ := boxP hbw
    have hbl := lt_of_heap hbw
    clear hbw
    by_cases hlt : k < p.fns.length
    · obtain ⟨ad, ha, f0, f1, f2, f3, f4⟩ := fun_cells (HP.out.2.2.2.1.keep (CellsK.of (grownBy_trans HG1.out HG.out))) hlt
      have HQ := Lib.hid (show IntKind.i64.wrap ((k : Int) + 1) = (k : Int) + 1 by rw [IntKind.wrap_i64]; omega)
      generalize p.fns[k]'hlt = f at *
      rw [ha] at b1
      go_wp2_with fail
      exact ⟨⟨k + 1, _, hlt, rfl, rfl, HG⟩, by simp [intOf]; omega⟩
    · obtain rfl : k = p.fns.length := by omega
      by_cases h3 : t3 = 0
      · have hg := HGP.out (by rw [HT.out]; exact h3)
        subst h3
        go_wp2_with fail
        go_ret
        exact ⟨_, rfl, fun _ => hg, grownBy_trans HG1.out HG.out⟩
      · have e3 : (t3 == 0) = false := by simpa using h3
        clear h3
        go_wp2_with fail
        go_ret
        exact ⟨_, rfl, fun e => (by cases e), grownBy_trans HG1.out HG.out⟩

end Go.Proofs.YtajmkdbokdjmeaaGreat
/- GenCons, walked. -/
namespace Go.Proofs.YtajmkdbokdjmeaaGreat
open Go.RowKit
theorem ite_memH {q : Prop} [Decidable q] {A B : List Kon} {P : Kon → Prop} (hA : q → ∀ c ∈ A, P c) (hB : ¬ q → ∀ c ∈ B, P c) : ∀ c ∈ (if q then A else B), P c := by
  split
  · exact hA (by assumption)
  · exact hB (by assumption)
theorem args_small {p : Prg} (h : GenOK p) {L : List Kon} (hL : L.map bare = genK p.fns p.fns.length) : ∀ c ∈ L, c.args.length ≤ 4000 := by
  intro c hc
  have h1 : bare c ∈ genK p.fns p.fns.length := by rw [← hL]; exact List.mem_map_of_mem hc
  unfold genK at h1
  obtain ⟨j, _, h2⟩ := List.mem_flatMap.1 h1
  rcases hf : p.fns[j]? with _ | f
  · rw [hf] at h2; simp at h2
  · rw [hf] at h2
    have h3 : bare c ∈ codeK p.fns j f.code f.code.length := h2
    unfold codeK at h3
    obtain ⟨q, _, h4⟩ := List.mem_flatMap.1 h3
    rcases hi : f.code[q]? with _ | i
    · rw [hi] at h4; simp at h4
    · rw [hi] at h4
      have h5 : bare c ∈ (consI p.fns j i).map (atK j q) := h4
      obtain ⟨d, hd, he⟩ := List.mem_map.1 h5
      have hs := h.ins f (List.mem_of_getElem? hf) i (List.mem_of_getElem? hi)
      have ha : c.args = d.args := by have := congrArg Kon.args he; exact this.symm
      rw [ha]
      have hall : ∀ c ∈ consI p.fns j i, c.args.length ≤ 4000 := by
        unfold consI callV
        repeat' first
          | with_reducible exact nil_mem
          | with_reducible exact one_mem (Nat.zero_le _)
          | with_reducible exact two_mem (Nat.zero_le _) (Nat.zero_le _)
          | with_reducible refine ite_memH (fun _ => ?_) (fun _ => ?_)
        · refine app_mem (fun c hc => ?_) (one_mem (Nat.zero_le _))
          obtain ⟨_, _, rfl⟩ := List.mem_map.1 hc
          exact Nat.zero_le _
        · refine one_mem ?_
          show (i.args.map _).length ≤ 4000
          rw [List.length_map]
          exact hs.2 (by assumption)
      exact hall d hd
set_option maxRecDepth 100000 in
set_option maxHeartbeats 4000000 in
theorem IntsK_any (A B : Option Addr) (c d : Nat) (l : List Int) (w : World) (hA : IntsAt w A l.length c l) (hB : IntsAt w B l.length d l) (hl : l.length ≤ 40000000000) :
    Calls Tryz.prog 12 #[.slice A l.length c, .slice B l.length d] w fun e w' => e = .returned (.bool true) ∧ w.grownBy w' none := by
  have HA := Lib.hid hA
  have HB := Lib.hid hB
  clear hA hB
  go_enter Tryz.func12, Tryz.ntmps12
  go_wp2_with fail
  go_loopw [5] (fun i wr => ∃ q : Nat, q ≤ l.length ∧ i = .int .i64 q ∧ Hid (w.grownBy wr none)) (fun i _ => l.length - (intOf i).toNat)
  case atStart => exact ⟨0, Nat.zero_le _, rfl, Lib.hid (grownBy_refl _ _)⟩
  case round =>
    obtain ⟨q, hq, rfl, HG⟩ := hrel
    have HQ := Lib.hid (show IntKind.i64.wrap ((q : Int) + 1) = (q : Int) + 1 by rw [IntKind.wrap_i64]; omega)
    by_cases hlt : q < l.length
    · have hz := List.getElem?_eq_getElem hlt
      obtain ⟨ia, rfl, i0⟩ := (HA.out.keep (CellsK.of HG.out)).cellAt hz
      obtain ⟨ib, rfl, j0⟩ := (HB.out.keep (CellsK.of HG.out)).cellAt hz
      generalize l[q]'hlt = z at *
      clear hz
      go_wp2_with go_region
      exact ⟨⟨q + 1, hlt, rfl, Lib.hid (HG.out.gr_drew)⟩, by simp [intOf]; omega⟩
    · obtain rfl : q = l.length := by omega
      go_wp2_with fail
      go_ret
      exact ⟨rfl, HG.out⟩
set_option maxRecDepth 100000 in
set_option maxHeartbeats 8000000 in
theorem cons_walk (p : Prg) (w : World) (hp : PrgOk w p) : Calls Tryz.prog 3 #[prgV p] w fun e w' => e = .returned (.bool true) ∧ w.grownBy w' none := by
  have HP := Lib.hid hp
  have HG0 := Lib.hid (gr_alloc (grownBy_refl w none) (.cells (prgC p) 25))
  have HB0 := Lib.hid (BoxC.new w (prgC p) 25)
  clear hp
  unfold prgV
  unfold prgC at HG0 HB0
  unfold prgC
  go_enter Tryz.func3, Tryz.ntmps3
  go_wp2_with fail
  refine (shown17 _).mono ?_
  rintro e w1 ⟨rfl, hg1⟩
  have HG1 := Lib.hid (grownBy_trans HG0.out hg1)
  have HB1 := Lib.hid (show BoxC (prgC p) 25 w.heap.size w1 from BoxC.gr HB0.out hg1)
  obtain ⟨b0, b1, b2⟩ := boxP HB1.out
  clear hg1 HB0 HG0
  go_wp2_with fail
  refine (show Calls Tryz.prog 9 #[.agg #[.slice p.sa p.sites.length p.sc, .slice p.fa p.fns.length p.fc, .int .i64 p.main]] w1 _ from may_any p w1 (HP.out.keep (CellsK.of HG1.out))).mono ?_
  rintro e w2 ⟨mb, rfl, hmb, hg2⟩
  have HG2 := Lib.hid (grownBy_trans HG1.out hg2)
  have HB2 := Lib.hid (HB1.out.gr hg2)
  have HMB := Lib.hid hmb
  clear hg2 HG1 HB1 b0 b1 b2 hmb
  obtain ⟨b0, b1, b2⟩ := boxP HB2.out
  rcases mb with _ | _
  · go_wp2_with fail
    go_ret
    exact ⟨rfl, HG2.out⟩
  · have HD := Lib.hid (docOK_of (HMB.out rfl))
    have hlen := HD.out.ok.small.1
    go_wp2_with fail
    refine (show Calls Tryz.prog 10 #[.agg #[.slice p.sa p.sites.length p.sc, .slice p.fa p.fns.length p.fc, .int .i64 p.main]] w2 _ from Vars_any p w2 (HP.out.2.2.2.1.keep (CellsK.of HG2.out)) HD.out.ok.small).mono ?_
    rintro e w3 ⟨Sa, Sc, rfl, hF, hg3⟩
    have HG3 := Lib.hid (grownBy_trans HG2.out hg3)
    have HB3 := Lib.hid (HB2.out.gr hg3)
    have HF3 := Lib.hid hF
    clear hg3 HG2 HB2 b0 b1 b2 hF
    obtain ⟨b0, b1, b2⟩ := boxP HB3.out
    go_wp2_with fail
    refine (show Calls Tryz.prog 11 #[.agg #[.slice p.sa p.sites.length p.sc, .slice p.fa p.fns.length p.fc, .int .i64 p.main]] w3 _ from rVars_any p w3 (HP.out.2.2.2.1.keep (CellsK.of HG3.out)) HD.out.ok.small).mono ?_
    rintro e w4 ⟨Ta, Tc, rfl, hF, hg4⟩
    have HG4 := Lib.hid (grownBy_trans HG3.out hg4)
    have HB4 := Lib.hid (HB3.out.gr hg4)
    have HF4 := Lib.hid hF
    have HF34 := Lib.hid (HF3.out.fr (.gr hg4))
    clear hg4 HG3 HB3 b0 b1 b2 hF
    obtain ⟨b0, b1, b2⟩ := boxP HB4.out
    have HIN := Lib.hid (show Calls Tryz.prog 12 #[.slice Sa p.fns.length Sc, .slice Ta p.fns.length Tc] w4 _ from by
      have h := IntsK_any Sa Ta Sc Tc (fstsL p.fns) w4 (by rw [fstsL_len]; exact HF34.out.ints) (by rw [fstsL_len]; exact HF4.out.ints) (by rw [fstsL_len]; omega)
      rw [fstsL_len] at h
      exact h)
    have HGE := Lib.hid (fun (W : World) (g : w4.grownBy W none) => (show Calls Tryz.prog 14 #[.agg #[.slice p.sa p.sites.length p.sc, .slice p.fa p.fns.length p.fc, .int .i64 p.main]] W (GenRet W (genK p.fns p.fns.length)) from Gen_any p W (HP.out.keep (CellsK.of (grownBy_trans HG4.out g))) HD.out.ok))
    have HRG := Lib.hid (fun (W : World) (g : w4.grownBy W none) => (show Calls Tryz.prog 15 #[.agg #[.slice p.sa p.sites.length p.sc, .slice p.fa p.fns.length p.fc, .int .i64 p.main]] W (GenRet W (genK p.fns p.fns.length)) from rGen_any p W (HP.out.keep (CellsK.of (grownBy_trans HG4.out g))) HD.out))
    have HINW := Lib.hid (fun (W : World) (g : w4.grownBy W none) => (show Calls Tryz.prog 12 #[.slice Sa p.fns.length Sc, .slice Ta p.fns.length Tc] W (fun e w' => e = .returned (.bool true) ∧ W.grownBy w' none) from by
      have h := IntsK_any Sa Ta Sc Tc (fstsL p.fns) W (by rw [fstsL_len]; exact HF34.out.ints.keep (CellsK.of g)) (by rw [fstsL_len]; exact HF4.out.ints.keep (CellsK.of g)) (by rw [fstsL_len]; omega)
      rw [fstsL_len] at h
      exact h))
    have HBK := Lib.hid (fun (W : World) (g : w4.grownBy W none) => (show w4.grownBy W none ∧ W.cell? ⟨w.heap.size, 0, none⟩ = some (.slice p.sa p.sites.length p.sc) ∧ W.cell? ⟨w.heap.size, 1, none⟩ = some (.slice p.fa p.fns.length p.fc) ∧ W.cell? ⟨w.heap.size, 2, none⟩ = some (.int .i64 p.main) from ⟨g, boxP (HB4.out.gr g)⟩))
    have HLB := Lib.hid (genK_len HD.out.ok p.fns.length (Nat.le_refl _))
    have HAS := Lib.hid (fun (L : List Kon) (h : L.map bare = genK p.fns p.fns.length) => args_small HD.out.ok h)
    generalize genK p.fns p.fns.length = G at *
    go_wp2_with fail
    go_region_held3 (fun W => w4.grownBy W none ∧ W.cell? ⟨w.heap.size, 0, none⟩ = some (.slice p.sa p.sites.length p.sc) ∧ W.cell? ⟨w.heap.size, 1, none⟩ = some (.slice p.fa p.fns.length p.fc) ∧ W.cell? ⟨w.heap.size, 2, none⟩ = some (.int .i64 p.main)) (first | assumption | (refine HBK.out _ ?_; (repeat (first | with_reducible exact grownBy_refl _ _ | with_reducible assumption | with_reducible refine World.grownBy.gr_drew ?_ | with_reducible refine gr_alloc ?_ _ | with_reducible refine grownBy_trans ?_ (by assumption))); done)) (first
      | (go_at_call 12; refine (HINW.out _ ?_).mono ?_; (focus repeat (first | with_reducible exact grownBy_refl _ _ | with_reducible assumption | with_reducible refine World.grownBy.gr_drew ?_ | with_reducible refine gr_alloc ?_ _ | with_reducible refine grownBy_trans ?_ (by assumption))); rintro e w5 ⟨rfl, hg5⟩)
      | (go_at_call 14; refine (HGE.out _ ?_).mono ?_; (focus repeat (first | with_reducible exact grownBy_refl _ _ | with_reducible assumption | with_reducible refine World.grownBy.gr_drew ?_ | with_reducible refine gr_alloc ?_ _ | with_reducible refine grownBy_trans ?_ (by assumption))); rintro e w6 ⟨A6, c6, L6, rfl, hc6, hs6, hk6, hb6, hg6, _⟩)
      | (go_at_call 15; refine (HRG.out _ ?_).mono ?_; (focus repeat (first | with_reducible exact grownBy_refl _ _ | with_reducible assumption | with_reducible refine World.grownBy.gr_drew ?_ | with_reducible refine gr_alloc ?_ _ | with_reducible refine grownBy_trans ?_ (by assumption))); rintro e w7 ⟨A7, c7, L7, rfl, hc7, hs7, hk7, hb7, hg7, _⟩)
      | (go_at_call 13; refine (SameK_any _ _ _ _ L6 L7 _ (StrAt.keep hs6 (CellsK.of ?_)) (StrAt.keep hs7 (CellsK.of ?_)) (KArgs.fr hk6 (FrK.gr ?_)) (KArgs.fr hk7 (FrK.gr ?_)) (hb6.trans hb7.symm) (by have := HLB.out; rw [← hb6, List.length_map] at this; omega) (HAS.out _ hb6)).mono ?_; (focus repeat (first | with_reducible exact grownBy_refl _ _ | with_reducible assumption | with_reducible refine World.grownBy.gr_drew ?_ | with_reducible refine gr_alloc ?_ _ | with_reducible refine grownBy_trans ?_ (by assumption))); (focus repeat (first | with_reducible exact grownBy_refl _ _ | with_reducible assumption | with_reducible refine World.grownBy.gr_drew ?_ | with_reducible refine gr_alloc ?_ _ | with_reducible refine grownBy_trans ?_ (by assumption))); (focus repeat (first | with_reducible exact grownBy_refl _ _ | with_reducible assumption | with_reducible refine World.grownBy.gr_drew ?_ | with_reducible refine gr_alloc ?_ _ | with_reducible refine grownBy_trans ?_ (by assumption))); (focus repeat (first | with_reducible exact grownBy_refl _ _ | with_reducible assumption | with_reducible refine World.grownBy.gr_drew ?_ | with_reducible refine gr_alloc ?_ _ | with_reducible refine grownBy_trans ?_ (by assumption))); rintro e w8 ⟨rfl, hg8⟩))
    all_goals
      have HGF := Lib.hid (show w4.grownBy w8 none by repeat (first | with_reducible exact grownBy_refl _ _ | with_reducible assumption | with_reducible refine World.grownBy.gr_drew ?_ | with_reducible refine gr_alloc ?_ _ | with_reducible refine grownBy_trans ?_ (by assumption)))
      go_wp2_with fail
      go_ret
      exact ⟨rfl, grownBy_trans HG4.out HGF.out⟩

end Go.Proofs.YtajmkdbokdjmeaaGreat
/- The laws of gen, plain: where constraints come from; how many there are. -/
namespace Go.Proofs.YtajmkdbokdjmeaaGreat
open Go.RowKit
theorem genK_mem {fs : List Fun'} {n : Nat} {c : Kon} (h : c ∈ genK fs n) : ∃ k f q i d, fs[k]? = some f ∧ f.code[q]? = some i ∧ d ∈ consI fs k i ∧ c = atK k q d := by
  unfold genK at h
  obtain ⟨k, _, h2⟩ := List.mem_flatMap.1 h
  rcases hf : fs[k]? with _ | f
  · rw [hf] at h2; simp at h2
  · rw [hf] at h2
    have h3 : c ∈ codeK fs k f.code f.code.length := h2
    unfold codeK at h3
    obtain ⟨q, _, h4⟩ := List.mem_flatMap.1 h3
    rcases hi : f.code[q]? with _ | i
    · rw [hi] at h4; simp at h4
    · rw [hi] at h4
      have h5 : c ∈ (consI fs k i).map (atK k q) := h4
      obtain ⟨d, hd, he⟩ := List.mem_map.1 h5
      exact ⟨k, f, q, i, d, hf, hi, hd, he.symm⟩
theorem ite_in {q : Prop} [Decidable q] {A B : List Kon} {x : Kon} {P : Prop} (hA : q → x ∈ A → P) (hB : ¬ q → x ∈ B → P) (h : x ∈ (if q then A else B)) : P := by
  split at h
  · exact hA (by assumption) h
  · exact hB (by assumption) h
/-- What an instruction with constraints is. -/
def NumOk (i : Ins) : Prop := (i.op = 5 ∧ (i.sign.toList = [43] ∨ i.sign.toList = [45])) ∨ ((i.op = 7 ∨ i.op = 8 ∨ i.op = 9) ∧ (i.w = 1 ∨ i.w = 8)) ∨ (i.op = 2 ∨ i.op = 13 ∨ i.op = 3 ∨ i.op = 4 ∨ i.op = 10 ∨ i.op = 11 ∨ i.op = 15 ∨ i.op = 16 ∨ i.op = 19)
theorem consI_num {fs : List Fun'} {k : Nat} {i : Ins} {d : Kon} (h : d ∈ consI fs k i) : NumOk i := by
  unfold NumOk
  unfold consI at h
  refine ite_in (fun e _ => by simp [e]) (fun _ h => ?_) h
  refine ite_in (fun e _ => by simp [e]) (fun _ h => ?_) h
  refine ite_in (fun e _ => by simp [e]) (fun _ h => ?_) h
  refine ite_in (fun e _ => by simp [e]) (fun _ h => ?_) h
  refine ite_in (fun e h => ?_) (fun _ h => ?_) h
  · exact ite_in (fun e2 _ => .inl ⟨e, .inl e2⟩) (fun _ h => ite_in (fun e3 _ => .inl ⟨e, .inr e3⟩) (fun _ h => by cases h) h) h
  refine ite_in (fun e h => ?_) (fun _ h => ?_) h
  · exact ite_in (fun e2 _ => .inr (.inl ⟨.inl e, e2⟩)) (fun _ h => by cases h) h
  refine ite_in (fun e h => ?_) (fun _ h => ?_) h
  · exact ite_in (fun e2 _ => .inr (.inl ⟨.inr (.inl e), e2⟩)) (fun _ h => by cases h) h
  refine ite_in (fun e h => ?_) (fun _ h => ?_) h
  · exact ite_in (fun e2 _ => .inr (.inl ⟨.inr (.inr e), e2⟩)) (fun _ h => by cases h) h
  refine ite_in (fun e _ => by simp [e]) (fun _ h => ?_) h
  refine ite_in (fun e _ => by simp [e]) (fun _ h => ?_) h
  refine ite_in (fun e _ => by simp [e]) (fun _ h => ?_) h
  refine ite_in (fun e _ => by simp [e]) (fun _ h => ?_) h
  exact ite_in (fun e _ => by simp [e]) (fun _ h => by cases h) h
/-- A sum over a function's first instructions; over the first functions. -/
def sumC (g : Ins → Nat) (l : List Ins) (q : Nat) : Nat := ((l.take q).map g).sum
def sumK (g : Ins → Nat) (fs : List Fun') (k : Nat) : Nat := ((fs.take k).map fun f => sumC g f.code f.code.length).sum
theorem sumC_succ {g : Ins → Nat} {l : List Ins} {q : Nat} {i : Ins} (h : l[q]? = some i) : sumC g l (q + 1) = sumC g l q + g i := by
  unfold sumC
  rw [List.take_add_one, h, List.map_append, List.sum_append]
  simp
theorem sumK_succ {g : Ins → Nat} {fs : List Fun'} {k : Nat} {f : Fun'} (h : fs[k]? = some f) : sumK g fs (k + 1) = sumK g fs k + sumC g f.code f.code.length := by
  unfold sumK
  rw [List.take_add_one, h, List.map_append, List.sum_append]
  simp
theorem codeK_count {fs : List Fun'} {k : Nat} {P : Kon → Bool} {g : Ins → Nat} (hP : ∀ (c : Kon) (a b : Nat), P (atK a b c) = P c) {l : List Ins} (hg : ∀ i ∈ l, (consI fs k i).countP P = g i) : ∀ q, q ≤ l.length → (codeK fs k l q).countP P = sumC g l q
  | 0, _ => rfl
  | q + 1, hq => by
    have hx := List.getElem?_eq_getElem (show q < l.length by omega)
    rw [codeK_succ hx, sumC_succ hx, List.countP_append, codeK_count hP hg q (by omega), List.countP_map]
    have : (P ∘ atK k q) = P := funext fun c => hP c k q
    rw [this, hg _ (List.getElem_mem (show q < l.length by omega))]
theorem genK_count {fs : List Fun'} {P : Kon → Bool} {g : Ins → Nat} (hP : ∀ (c : Kon) (a b : Nat), P (atK a b c) = P c) (hg : ∀ f ∈ fs, ∀ i ∈ f.code, ∀ k, (consI fs k i).countP P = g i) : ∀ k, k ≤ fs.length → (genK fs k).countP P = sumK g fs k
  | 0, _ => rfl
  | k + 1, hk => by
    have hx := List.getElem?_eq_getElem (show k < fs.length by omega)
    have hm := List.getElem_mem (show k < fs.length by omega)
    rw [genK_succ hx, sumK_succ hx, List.countP_append, genK_count hP hg k (by omega), codeK_count hP (fun i hi => hg _ hm i hi k) _ (Nat.le_refl _)]
theorem count_bare {P : Kon → Bool} (hP : ∀ c, P (bare c) = P c) {L G : List Kon} (h : L.map bare = G) : L.countP P = G.countP P := by
  rw [← h, List.countP_map]
  have : (P ∘ bare) = P := funext hP
  rw [this]
theorem sumC_le {g : Ins → Nat} {b : Nat} {l : List Ins} (h : ∀ i ∈ l, g i ≤ b) : ∀ q, q ≤ l.length → sumC g l q ≤ b * q
  | 0, _ => Nat.zero_le _
  | q + 1, hq => by
    have hx := List.getElem?_eq_getElem (show q < l.length by omega)
    rw [sumC_succ hx, Nat.mul_add]
    have h1 := sumC_le h q (by omega)
    have h2 := h _ (List.getElem_mem (show q < l.length by omega))
    omega
theorem sumK_le {g : Ins → Nat} {b m : Nat} {fs : List Fun'} (h : ∀ f ∈ fs, f.code.length ≤ m ∧ ∀ i ∈ f.code, g i ≤ b) : ∀ k, k ≤ fs.length → sumK g fs k ≤ b * m * k
  | 0, _ => Nat.zero_le _
  | k + 1, hk => by
    have hx := List.getElem?_eq_getElem (show k < fs.length by omega)
    have hm := h _ (List.getElem_mem (show k < fs.length by omega))
    rw [sumK_succ hx, Nat.mul_add]
    have h1 := sumK_le h k (by omega)
    have h2 := sumC_le hm.2 _ (Nat.le_refl _)
    have h3 := Nat.mul_le_mul_left b hm.1
    omega
/-- How many constraints of kinds an instruction has. -/
def isK (n : Int) (c : Kon) : Bool := c.kind == n
theorem isK_at (n : Int) (c : Kon) (a b : Nat) : isK n (atK a b c) = isK n c := rfl
theorem isK_bare (n : Int) (c : Kon) : isK n (bare c) = isK n c := rfl
def callN (i : Ins) : Nat := if i.op = 16 then 1 else 0
def baseN (i : Ins) : Nat := if i.op = 2 ∨ i.op = 13 then 1 else 0
def copyN (i : Ins) : Nat := if i.op = 7 then (if i.w = 4 then 0 else 1) else if i.op = 15 then i.args.length + 1 else if i.op = 19 then (if 0 ≤ i.a then 1 else 0) else 0
theorem ite_count {q : Prop} [Decidable q] {A B : List Kon} {P : Kon → Bool} {n : Nat} (hA : q → A.countP P = n) (hB : ¬ q → B.countP P = n) : (if q then A else B).countP P = n := by
  split
  · exact hA (by assumption)
  · exact hB (by assumption)
theorem argV_count {P : Kon → Bool} {b : Bool} (h : ∀ t x : Int, P (twoK 2 t x 0) = b) (t : Int) (M : List Int) : ∀ q, (argV t M q).countP P = if b then q else 0
  | 0 => by simp [argV]
  | q + 1 => by
    have ih := argV_count h t M q
    unfold argV at ih ⊢
    rw [List.range_succ, List.map_append, List.countP_append, ih]
    simp only [List.map_cons, List.map_nil, List.countP_cons, List.countP_nil, h]
    cases b <;> simp

end Go.Proofs.YtajmkdbokdjmeaaGreat
/- The laws of gen, plain: how many constraints of a kind an instruction has. -/
namespace Go.Proofs.YtajmkdbokdjmeaaGreat
open Go.RowKit
theorem consI_call (fs : List Fun') (k : Nat) (i : Ins) : (consI fs k i).countP (isK 8) = callN i := by
  have hv : ∀ (t tl va : Int) (M : List Int), (callV t tl va M).countP (isK 8) = 0 := fun t tl va M => by
    unfold callV
    rw [List.countP_append, argV_count (b := false) (fun _ _ => rfl)]
    rfl
  unfold consI callN
  repeat' (refine ite_count (fun e => ?_) (fun e => ?_))
  all_goals first
    | (simp [*]; done)
    | (simp [isK, baseK, twoK, callK, *]; done)
    | (simp [isK, baseK, twoK, callK, *]; omega)
theorem consI_base (fs : List Fun') (k : Nat) (i : Ins) : (consI fs k i).countP (isK 1) = baseN i := by
  have hv : ∀ (t tl va : Int) (M : List Int), (callV t tl va M).countP (isK 1) = 0 := fun t tl va M => by
    unfold callV
    rw [List.countP_append, argV_count (b := false) (fun _ _ => rfl)]
    rfl
  unfold consI baseN
  repeat' (refine ite_count (fun e => ?_) (fun e => ?_))
  all_goals first
    | (simp [*]; done)
    | (simp [isK, baseK, twoK, callK, *]; done)
    | (simp [isK, baseK, twoK, callK, *]; omega)
theorem consI_copy (fs : List Fun') (k : Nat) (i : Ins) (h7 : i.op = 7 → i.w = 1 ∨ i.w = 4 ∨ i.w = 8) (h19 : i.op = 19 → -1 ≤ i.a) : (consI fs k i).countP (isK 2) = copyN i := by
  have hv : ∀ (t tl va : Int) (M : List Int), (callV t tl va M).countP (isK 2) = M.length + 1 := fun t tl va M => by
    unfold callV
    rw [List.countP_append, argV_count (b := true) (fun _ _ => rfl)]
    rfl
  unfold consI copyN
  repeat' (refine ite_count (fun e => ?_) (fun e => ?_))
  all_goals first
    | (simp [*]; done)
    | (simp [isK, baseK, twoK, callK, *]; done)
    | (simp [isK, twoK, *]; omega)
theorem consI_isCall {fs : List Fun'} {k : Nat} {i : Ins} {d : Kon} (h : d ∈ consI fs k i) (hk : d.kind = 8) : i.op = 16 ∧ d.args.length = i.args.length := by
  by_cases e : i.op = 16
  · refine ⟨e, ?_⟩
    unfold consI at h
    simp [e] at h
    subst h
    simp [callK]
  · have h0 := consI_call fs k i
    unfold callN at h0
    rw [if_neg e] at h0
    have := List.countP_eq_zero.1 h0 d h
    simp [isK, hk] at this

end Go.Proofs.YtajmkdbokdjmeaaGreat
/- GenNumbers, walked. -/
namespace Go.Proofs.YtajmkdbokdjmeaaGreat
open Go.RowKit
/-- Where a constraint of a program comes from, in memory's words. -/
theorem come_from {p : Prg} {L : List Kon} (hL : L.map bare = genK p.fns p.fns.length) {r : Nat} {c : Kon} (hc : L[r]? = some c) :
    ∃ (k q : Nat) (f : Fun') (i : Ins) (d : Kon), p.fns[k]? = some f ∧ f.code[q]? = some i ∧ d ∈ consI p.fns k i ∧ c.fn = k ∧ c.pc = q ∧ c.kind = d.kind ∧ c.args = d.args := by
  have h1 : bare c ∈ genK p.fns p.fns.length := by rw [← hL]; exact List.mem_map_of_mem (List.mem_of_getElem? hc)
  obtain ⟨k, f, q, i, d, h2, h3, h4, h5⟩ := genK_mem h1
  refine ⟨k, q, f, i, d, h2, h3, h4, ?_, ?_, ?_, ?_⟩
  · have := congrArg Kon.fn h5; exact this
  · have := congrArg Kon.pc h5; exact this
  · have := congrArg Kon.kind h5; exact this
  · have := congrArg Kon.args h5; exact this
set_option maxRecDepth 100000 in
set_option maxHeartbeats 16000000 in
theorem numbers_walk (p : Prg) (w : World) (hp : PrgOk w p) : Calls Tryz.prog 6 #[prgV p] w fun e w' => e = .returned (.bool true) ∧ w.grownBy w' none := by
  have HP := Lib.hid hp
  have HG0 := Lib.hid (gr_alloc (grownBy_refl w none) (.cells (prgC p) 25))
  have HB0 := Lib.hid (BoxC.new w (prgC p) 25)
  clear hp
  unfold prgV
  unfold prgC at HG0 HB0
  unfold prgC
  go_enter Tryz.func6, Tryz.ntmps6
  go_wp2_with fail
  refine (shown17 _).mono ?_
  rintro e w1 ⟨rfl, hg1⟩
  have HG1 := Lib.hid (grownBy_trans HG0.out hg1)
  have HB1 := Lib.hid (show BoxC (prgC p) 25 w.heap.size w1 from BoxC.gr HB0.out hg1)
  obtain ⟨b0, b1, b2⟩ := boxP HB1.out
  clear hg1 HB0 HG0
  go_wp2_with fail
  refine (show Calls Tryz.prog 9 #[.agg #[.slice p.sa p.sites.length p.sc, .slice p.fa p.fns.length p.fc, .int .i64 p.main]] w1 _ from may_any p w1 (HP.out.keep (CellsK.of HG1.out))).mono ?_
  rintro e w2 ⟨mb, rfl, hmb, hg2⟩
  have HG2 := Lib.hid (grownBy_trans HG1.out hg2)
  have HB2 := Lib.hid (HB1.out.gr hg2)
  have HMB := Lib.hid hmb
  clear hg2 HG1 HB1 b0 b1 b2 hmb
  obtain ⟨b0, b1, b2⟩ := boxP HB2.out
  rcases mb with _ | _
  · go_wp2_with fail
    go_ret
    exact ⟨rfl, HG2.out⟩
  · have HD := Lib.hid (docOK_of (HMB.out rfl))
    have hlen := HD.out.ok.small.1
    have HLB := Lib.hid (genK_len HD.out.ok p.fns.length (Nat.le_refl _))
    go_wp2_with fail
    refine (show Calls Tryz.prog 14 #[.agg #[.slice p.sa p.sites.length p.sc, .slice p.fa p.fns.length p.fc, .int .i64 p.main]] w2 _ from Gen_any p w2 (HP.out.keep (CellsK.of HG2.out)) HD.out.ok).mono ?_
    rintro e w3 ⟨A, c, L, rfl, hc0, hL, hK, hb, hg3, _⟩
    have HG3 := Lib.hid (grownBy_trans HG2.out hg3)
    have HB3 := Lib.hid (HB2.out.gr hg3)
    have HL := Lib.hid hL
    have HC := Lib.hid (fun (r : Nat) (c : Kon) (h : L[r]? = some c) => come_from hb h)
    have hll : L.length ≤ 40000000000 := by have := HLB.out; rw [← hb, List.length_map] at this; omega
    clear hg3 HG2 HB2 b0 b1 b2 hL hK hc0 hb
    go_wp2_with fail
    go_loopw [5] (fun i wr => ∃ r : Nat, r ≤ L.length ∧ i = .int .i64 r ∧ Hid (w3.grownBy wr none)) (fun i _ => L.length - (intOf i).toNat)
    case atStart => exact ⟨0, Nat.zero_le _, rfl, Lib.hid (grownBy_refl _ _)⟩
    case round =>
      obtain ⟨r, hr, rfl, HG⟩ := hrel
      have HQ := Lib.hid (show IntKind.i64.wrap ((r : Int) + 1) = (r : Int) + 1 by rw [IntKind.wrap_i64]; omega)
      by_cases hlt : r < L.length
      · obtain ⟨k, q, f, i, d, hf, hi, hd, h1, h2, _, _⟩ := HC.out r _ (List.getElem?_eq_getElem hlt)
        have HN := Lib.hid (consI_num hd)
        obtain ⟨da, rfl, e0, e1, e2, e3, e4, e5, e6, e7, e8⟩ := kon_cells (HL.out.keep (CellsK.of HG.out)) hlt
        generalize L[r]'hlt = x at *
        rw [h1] at e7
        rw [h2] at e8
        have hkl := (List.getElem?_eq_some_iff.1 hf).1
        have hql := (List.getElem?_eq_some_iff.1 hi).1
        have hfe := (List.getElem?_eq_some_iff.1 hf).2
        have hie := (List.getElem?_eq_some_iff.1 hi).2
        have HGW := Lib.hid (grownBy_trans HG3.out HG.out)
        obtain ⟨ad, ha, _, _, _, _, f4⟩ := fun_cells (HP.out.2.2.2.1.keep (CellsK.of HGW.out)) hkl
        have HFK := Lib.hid (HP.out.2.2.2.2 _ (List.getElem_mem hkl))
        rw [hfe] at f4 HFK
        obtain ⟨cd, hcd, c0, c1, c2, c3, c4, c5, c6, c7⟩ := ins_cells (HFK.out.2.2.2.1.keep (CellsK.of HGW.out)) hql
        rw [hie] at c0 c1 c2 c3 c4 c5 c6 c7
        obtain ⟨b0, b1, b2⟩ := boxP (HB3.out.gr HG.out)
        rw [ha] at b1
        rw [hcd] at f4
        have hbl := lt_of_heap (HB3.out.gr HG.out)
        have hal := World.block_lt_of_cell? wr _ f4
        have hdl := World.block_lt_of_cell? wr _ e7
        have hcl := World.block_lt_of_cell? wr _ c1
        dsimp only at hal hdl hcl
        have HKP := Lib.hid (fun (W : World) (g : wr.grownBy W none) => (show wr.grownBy W none ∧ W.cell? ⟨w.heap.size, 1, none⟩ = some (.slice (some ad) p.fns.length p.fc) ∧ W.cell? ⟨(da.add (r * 9)).block, (da.add (r * 9)).off + 7, none⟩ = some (.int .i64 k) ∧ W.cell? ⟨(da.add (r * 9)).block, (da.add (r * 9)).off + 8, none⟩ = some (.int .i64 q) ∧ W.cell? ⟨(ad.add (k * 5)).block, (ad.add (k * 5)).off + 4, none⟩ = some (.slice (some cd) f.code.length f.cc) ∧ W.cell? (cd.add (q * 8)) = some (.int .i64 i.op) ∧ W.cell? ⟨(cd.add (q * 8)).block, (cd.add (q * 8)).off + 1, none⟩ = some (.int .i64 i.a) ∧ W.cell? ⟨(cd.add (q * 8)).block, (cd.add (q * 8)).off + 2, none⟩ = some (.int .i64 i.b) ∧ W.cell? ⟨(cd.add (q * 8)).block, (cd.add (q * 8)).off + 3, none⟩ = some (.int .i64 i.c) ∧ W.cell? ⟨(cd.add (q * 8)).block, (cd.add (q * 8)).off + 4, none⟩ = some (.int .i64 i.w) ∧ W.cell? ⟨(cd.add (q * 8)).block, (cd.add (q * 8)).off + 5, none⟩ = some (.int .i64 i.n) ∧ W.cell? ⟨(cd.add (q * 8)).block, (cd.add (q * 8)).off + 6, none⟩ = some (.string i.sign) ∧ W.cell? ⟨(cd.add (q * 8)).block, (cd.add (q * 8)).off + 7, none⟩ = some (.slice i.aa i.an i.ac) from
          have K := CellsK.of g
          ⟨g, K.2 _ _ b1, K.2 _ _ e7, K.2 _ _ e8, K.2 _ _ f4, K.2 _ _ c0, K.2 _ _ c1, K.2 _ _ c2, K.2 _ _ c3, K.2 _ _ c4, K.2 _ _ c5, K.2 _ _ c6, K.2 _ _ c7⟩))
        clear h1 h2 hf hi hd hfe hie e0 e1 e2 e3 e4 e5 e6
        go_wp2_with fail
        go_region_held3 (fun W => wr.grownBy W none ∧ W.cell? ⟨w.heap.size, 1, none⟩ = some (.slice (some ad) p.fns.length p.fc) ∧ W.cell? ⟨(da.add (r * 9)).block, (da.add (r * 9)).off + 7, none⟩ = some (.int .i64 k) ∧ W.cell? ⟨(da.add (r * 9)).block, (da.add (r * 9)).off + 8, none⟩ = some (.int .i64 q) ∧ W.cell? ⟨(ad.add (k * 5)).block, (ad.add (k * 5)).off + 4, none⟩ = some (.slice (some cd) f.code.length f.cc) ∧ W.cell? (cd.add (q * 8)) = some (.int .i64 i.op) ∧ W.cell? ⟨(cd.add (q * 8)).block, (cd.add (q * 8)).off + 1, none⟩ = some (.int .i64 i.a) ∧ W.cell? ⟨(cd.add (q * 8)).block, (cd.add (q * 8)).off + 2, none⟩ = some (.int .i64 i.b) ∧ W.cell? ⟨(cd.add (q * 8)).block, (cd.add (q * 8)).off + 3, none⟩ = some (.int .i64 i.c) ∧ W.cell? ⟨(cd.add (q * 8)).block, (cd.add (q * 8)).off + 4, none⟩ = some (.int .i64 i.w) ∧ W.cell? ⟨(cd.add (q * 8)).block, (cd.add (q * 8)).off + 5, none⟩ = some (.int .i64 i.n) ∧ W.cell? ⟨(cd.add (q * 8)).block, (cd.add (q * 8)).off + 6, none⟩ = some (.string i.sign) ∧ W.cell? ⟨(cd.add (q * 8)).block, (cd.add (q * 8)).off + 7, none⟩ = some (.slice i.aa i.an i.ac)) (first | assumption | (refine HKP.out _ ?_; (repeat (first | with_reducible exact grownBy_refl _ _ | with_reducible assumption | with_reducible refine World.grownBy.gr_drew ?_ | with_reducible refine gr_alloc ?_ _ | with_reducible refine grownBy_trans ?_ (by assumption))); done)) (fail)
        all_goals
          have HGF := Lib.hid (show w3.grownBy ((wr.alloc (.cells #[.int .i64 i.op, .int .i64 i.a, .int .i64 i.b, .int .i64 i.c, .int .i64 i.w, .int .i64 i.n, .string i.sign, .slice i.aa i.an i.ac] 36)).drew) none from World.grownBy.gr_drew (gr_alloc HG.out _))
          obtain ⟨op, a, b, cc, ww, n, sign, aa, an, ac, args⟩ := i
          dsimp only at *
          have hc4 : ∀ (x : Int), (x = 1 ∨ x = 8) → (x == 4) = false := fun x hx => by rcases hx with rfl | rfl <;> rfl
          clear HKP e7 e8 f4 c0 c1 c2 c3 c4 c5 c6 c7 b0 b1 b2 hal hdl hcl
          rcases HN.out with ⟨hop, hs⟩ | ⟨hop, hw⟩ | hop
          · have hop : op = 5 := hop
            have hs : sign.toList = [43] ∨ sign.toList = [45] := hs
            subst hop
            rcases hs with hs | hs
            · have s1 : (sign.toList == [43]) = true := by simpa using hs
              clear hs hc4
              go_wp2_with fail
              exact ⟨⟨r + 1, hlt, by omega⟩, by simp [intOf]; omega⟩
            · have s1 : (sign.toList == [43]) = false := by rw [hs]; rfl
              have s2 : (sign.toList == [45]) = true := by simpa using hs
              clear hs hc4
              go_wp2_with fail
              exact ⟨⟨r + 1, hlt, by omega⟩, by simp [intOf]; omega⟩
          · have hw : (ww == 4) = false := hc4 ww hw
            have hop : op = 7 ∨ op = 8 ∨ op = 9 := hop
            clear hc4
            rcases hop with rfl | rfl | rfl
            all_goals
              go_wp2_with fail
              exact ⟨⟨r + 1, hlt, by omega⟩, by simp [intOf]; omega⟩
          · have hop : op = 2 ∨ op = 13 ∨ op = 3 ∨ op = 4 ∨ op = 10 ∨ op = 11 ∨ op = 15 ∨ op = 16 ∨ op = 19 := hop
            have n1 : (op == 1) = false := by simp; omega
            have n6 : (op == 6) = false := by simp; omega
            have n12 : (op == 12) = false := by simp; omega
            have n14 : (op == 14) = false := by simp; omega
            have n17 : (op == 17) = false := by simp; omega
            have n18 : (op == 18) = false := by simp; omega
            have n20 : (op == 20) = false := by simp; omega
            have n5 : (op == 5) = false := by simp; omega
            have n8 : (op == 8) = false := by simp; omega
            have n9 : (op == 9) = false := by simp; omega
            have n7 : (op == 7) = false := by simp; omega
            clear hc4 hop
            go_wp2_with fail
            exact ⟨⟨r + 1, hlt, by omega⟩, by simp [intOf]; omega⟩
      · obtain rfl : r = L.length := by omega
        go_wp2_with fail
        go_ret
        exact ⟨rfl, grownBy_trans HG3.out HG.out⟩

end Go.Proofs.YtajmkdbokdjmeaaGreat
/- The laws of gen: sums, what their loops count. -/
namespace Go.Proofs.YtajmkdbokdjmeaaGreat
open Go.RowKit
theorem int_eq {a b : Int} (h : a = b) : Value.int .i64 a = Value.int .i64 b := by rw [h]
theorem callN_le (i : Ins) : callN i ≤ 1 := by unfold callN; split <;> omega
theorem baseN_le (i : Ins) : baseN i ≤ 1 := by unfold baseN; split <;> omega
theorem callN_yes {i : Ins} (h : i.op = 16) : callN i = 1 := if_pos h
theorem callN_no {i : Ins} (h : ¬ i.op = 16) : callN i = 0 := if_neg h
theorem baseN_yes {i : Ins} (h : i.op = 2 ∨ i.op = 13) : baseN i = 1 := if_pos h
theorem baseN_no {i : Ins} (h : ¬ (i.op = 2 ∨ i.op = 13)) : baseN i = 0 := if_neg h
theorem sumK_small {p : Prg} (h : SmallF p.fns) {g : Ins → Nat} {b : Nat} (hg : ∀ f ∈ p.fns, ∀ i ∈ f.code, g i ≤ b) (k : Nat) (hk : k ≤ p.fns.length) : sumK g p.fns k ≤ b * 800000 := by
  have h1 := sumK_le (m := 4000) (fun f hf => ⟨(h.2 f hf).2.2, hg f hf⟩) k hk
  have h2 : k ≤ 200 := by have := h.1; omega
  have h3 := Nat.mul_le_mul_left (b * 4000) h2
  omega
theorem sumC_small {p : Prg} (h : SmallF p.fns) {g : Ins → Nat} {b : Nat} {f : Fun'} (hf : f ∈ p.fns) (hg : ∀ i ∈ f.code, g i ≤ b) (q : Nat) (hq : q ≤ f.code.length) : sumC g f.code q ≤ b * 4000 := by
  have h1 := sumC_le hg q hq
  have h2 : q ≤ 4000 := by have := (h.2 f hf).2.2; omega
  exact Nat.le_trans h1 (Nat.mul_le_mul_left b h2)
theorem take_count {P : Kon → Bool} {L : List Kon} {r : Nat} {x : Kon} (h : L[r]? = some x) : (L.take (r + 1)).countP P = (L.take r).countP P + (if P x then 1 else 0) := by
  rw [List.take_add_one, h, List.countP_append]
  simp
theorem take_count_le {P : Kon → Bool} {L : List Kon} (r : Nat) : (L.take r).countP P ≤ L.countP P := by
  conv => rhs; rw [← List.take_append_drop r L, List.countP_append]
  omega

end Go.Proofs.YtajmkdbokdjmeaaGreat
/- GenCalls, walked. -/
namespace Go.Proofs.YtajmkdbokdjmeaaGreat
open Go.RowKit
set_option maxRecDepth 100000 in
set_option maxHeartbeats 16000000 in
theorem calls_walk (p : Prg) (w : World) (hp : PrgOk w p) : Calls Tryz.prog 7 #[prgV p] w fun e w' => e = .returned (.bool true) ∧ w.grownBy w' none := by
  have HP := Lib.hid hp
  have HG0 := Lib.hid (gr_alloc (grownBy_refl w none) (.cells (prgC p) 25))
  have HB0 := Lib.hid (BoxC.new w (prgC p) 25)
  clear hp
  unfold prgV
  unfold prgC at HG0 HB0
  unfold prgC
  go_enter Tryz.func7, Tryz.ntmps7
  go_wp2_with fail
  refine (shown17 _).mono ?_
  rintro e w1 ⟨rfl, hg1⟩
  have HG1 := Lib.hid (grownBy_trans HG0.out hg1)
  have HB1 := Lib.hid (show BoxC (prgC p) 25 w.heap.size w1 from BoxC.gr HB0.out hg1)
  obtain ⟨b0, b1, b2⟩ := boxP HB1.out
  clear hg1 HB0 HG0
  go_wp2_with fail
  refine (show Calls Tryz.prog 9 #[.agg #[.slice p.sa p.sites.length p.sc, .slice p.fa p.fns.length p.fc, .int .i64 p.main]] w1 _ from may_any p w1 (HP.out.keep (CellsK.of HG1.out))).mono ?_
  rintro e w2 ⟨mb, rfl, hmb, hg2⟩
  have HG2 := Lib.hid (grownBy_trans HG1.out hg2)
  have HB2 := Lib.hid (HB1.out.gr hg2)
  have HMB := Lib.hid hmb
  clear hg2 HG1 HB1 b0 b1 b2 hmb
  obtain ⟨b0, b1, b2⟩ := boxP HB2.out
  rcases mb with _ | _
  · go_wp2_with fail
    go_ret
    exact ⟨rfl, HG2.out⟩
  · have HD := Lib.hid (docOK_of (HMB.out rfl))
    have hlen := HD.out.ok.small.1
    have HLB := Lib.hid (genK_len HD.out.ok p.fns.length (Nat.le_refl _))
    have hp0 : 0 < p.fns.length := by have := inB_iff (HMB.out rfl).main; omega
    obtain ⟨ad, ha, _⟩ := fun_cells HP.out.2.2.2.1 hp0
    rw [ha]
    rw [ha] at b1
    go_wp2_with fail
    refine (show Calls Tryz.prog 14 #[.agg #[.slice p.sa p.sites.length p.sc, .slice (some ad) p.fns.length p.fc, .int .i64 p.main]] w2 (GenRet w2 (genK p.fns p.fns.length)) from by
      have h := Gen_any p w2 (HP.out.keep (CellsK.of HG2.out)) HD.out.ok
      unfold prgV prgC at h
      rw [ha] at h
      exact h).mono ?_
    rintro e w3 ⟨A, c, L, rfl, hc0, hL, hK, hb, hg3, _⟩
    have HG3 := Lib.hid (grownBy_trans HG2.out hg3)
    have HB3 := Lib.hid (HB2.out.gr hg3)
    have HL := Lib.hid hL
    have HKA := Lib.hid hK
    have HC := Lib.hid (fun (r : Nat) (c : Kon) (h : L[r]? = some c) => come_from hb h)
    have hll : L.length ≤ 40000000000 := by have := HLB.out; rw [← hb, List.length_map] at this; omega
    have HN8 := Lib.hid (show L.countP (isK 8) = sumK callN p.fns p.fns.length by rw [count_bare (isK_bare 8) hb]; exact genK_count (isK_at 8) (fun f hf i hi k => consI_call _ _ _) _ (Nat.le_refl _))
    have HN1 := Lib.hid (show L.countP (isK 1) = sumK baseN p.fns p.fns.length by rw [count_bare (isK_bare 1) hb]; exact genK_count (isK_at 1) (fun f hf i hi k => consI_base _ _ _) _ (Nat.le_refl _))
    clear hg3 HG2 HB2 b0 b1 b2 hL hK hc0 hb
    go_wp2_with fail
    go_loopw [5, 6, 7] (fun s t i wr => ∃ k : Nat, k ≤ p.fns.length ∧ i = .int .i64 k ∧ s = .int .i64 (sumK callN p.fns k : Nat) ∧ t = .int .i64 (sumK baseN p.fns k : Nat) ∧ Hid (w3.grownBy wr none)) (fun s t i _ => p.fns.length - (intOf i).toNat)
    case atStart => exact ⟨0, Nat.zero_le _, rfl, rfl, rfl, Lib.hid (grownBy_refl _ _)⟩
    case round =>
      obtain ⟨k, hk, rfl, rfl, rfl, HG⟩ := hrel
      have hbw := HB3.out.gr HG.out
      obtain ⟨b0, b1, b2⟩ := boxP hbw
      rw [ha] at b1
      have hbl := lt_of_heap hbw
      clear hbw
      by_cases hlt : k < p.fns.length
      · have HQ := Lib.hid (show IntKind.i64.wrap ((k : Int) + 1) = (k : Int) + 1 by rw [IntKind.wrap_i64]; omega)
        have hx := List.getElem?_eq_getElem hlt
        have HX := Lib.hid hx
        have HFM := Lib.hid (List.getElem_mem hlt)
        have HFK := Lib.hid (HP.out.2.2.2.2 _ (List.getElem_mem hlt))
        have HFS := Lib.hid (HD.out.ok.small.2 _ (List.getElem_mem hlt))
        have HFC := Lib.hid (fun (W : World) (g : w.grownBy W none) => (fun_cells (HP.out.2.2.2.1.keep (CellsK.of g)) hlt))
        generalize p.fns[k]'hlt = f at *
        have hfc : f.code.length ≤ 4000 := HFS.out.2.2
        clear hx
        go_wp2_with fail
        go_loopw [5, 6, 8] (fun s t i wr => ∃ q : Nat, q ≤ f.code.length ∧ i = .int .i64 q ∧ s = .int .i64 (sumK callN p.fns k + sumC callN f.code q : Nat) ∧ t = .int .i64 (sumK baseN p.fns k + sumC baseN f.code q : Nat) ∧ Hid (w3.grownBy wr none)) (fun s t i _ => f.code.length - (intOf i).toNat)
        case atStart => exact ⟨0, Nat.zero_le _, rfl, rfl, rfl, HG⟩
        case round =>
          obtain ⟨q, hq, rfl, rfl, rfl, HT⟩ := hrel
          have HQ2 := Lib.hid (show IntKind.i64.wrap ((q : Int) + 1) = (q : Int) + 1 by rw [IntKind.wrap_i64]; omega)
          clear b0 b1 b2 hbl
          have hbw := HB3.out.gr HT.out
          obtain ⟨b0, b1, b2⟩ := boxP hbw
          have hbl := lt_of_heap hbw
          clear hbw
          rw [ha] at b1
          have HTW := Lib.hid (grownBy_trans HG3.out HT.out)
          obtain ⟨ad', ha', _, _, _, _, f4⟩ := HFC.out _ HTW.out
          rw [ha] at ha'
          injection ha' with ha'
          subst ha'
          by_cases hlc : q < f.code.length
          · obtain ⟨cd, hcd, c0, c1, c2, c3, c4, c5, c6, c7⟩ := ins_cells (HFK.out.2.2.2.1.keep (CellsK.of HTW.out)) hlc
            have hy := List.getElem?_eq_getElem hlc
            have h8 := sumC_succ (g := callN) hy
            have h1 := sumC_succ (g := baseN) hy
            have hk8 := sumK_small HD.out.ok.small (fun f _ i _ => callN_le i) k (Nat.le_of_lt hlt)
            have hk1 := sumK_small HD.out.ok.small (fun f _ i _ => baseN_le i) k (Nat.le_of_lt hlt)
            have hc8 := sumC_small HD.out.ok.small HFM.out (fun i _ => callN_le i) q hq
            have hc1 := sumC_small HD.out.ok.small HFM.out (fun i _ => baseN_le i) q hq
            generalize f.code[q]'hlc = i at *
            generalize hs8 : sumC callN f.code (q + 1) = S8 at *
            generalize hs1 : sumC baseN f.code (q + 1) = S1 at *
            have HS8 := Lib.hid hs8
            have HS1 := Lib.hid hs1
            generalize sumK callN p.fns k = K8 at *
            generalize sumK baseN p.fns k = K1 at *
            generalize sumC callN f.code q = C8 at *
            generalize sumC baseN f.code q = C1 at *
            have hw8 : IntKind.i64.wrap (((K8 + C8 : Nat) : Int) + 1) = ((K8 + C8 + 1 : Nat) : Int) := by rw [IntKind.wrap_i64]; omega
            have hw1 : IntKind.i64.wrap (((K1 + C1 : Nat) : Int) + 1) = ((K1 + C1 + 1 : Nat) : Int) := by rw [IntKind.wrap_i64]; omega
            rw [hcd] at f4
            clear hs8 hs1 hy hk8 hk1 hc8 hc1
            have H8 := Lib.hid h8
            have H1 := Lib.hid h1
            clear h8 h1
            generalize hz8 : K8 + C8 = Z8 at *
            generalize hz1 : K1 + C1 = Z1 at *
            have HZ8 := Lib.hid hz8
            have HZ1 := Lib.hid hz1
            clear hz8 hz1
            by_cases o16 : i.op = 16
            · skip
              have n16 : (i.op == 16) = true := by simp; omega
              have n2 : (i.op == 2) = false := by simp; omega
              have n13 : (i.op == 13) = false := by simp; omega
              have HE8 := Lib.hid (callN_yes o16)
              have HE1 := Lib.hid (baseN_no (i := i) (by omega))
              clear o16
              go_wp2_with fail
              exact ⟨⟨q + 1, hlc, rfl, int_eq (by have := HS8.out; have := H8.out; have := HE8.out; have := HZ8.out; omega), int_eq (by have := HS1.out; have := H1.out; have := HE1.out; have := HZ1.out; omega), Lib.hid (gr_alloc HT.out _)⟩, by simp [intOf]; omega⟩
            · by_cases o2 : i.op = 2
              · skip
                have n16 : (i.op == 16) = false := by simp; omega
                have n2 : (i.op == 2) = true := by simp; omega
                have n13 : (i.op == 13) = false := by simp; omega
                have HE8 := Lib.hid (callN_no o16)
                have HE1 := Lib.hid (baseN_yes (i := i) (by omega))
                clear o16 o2
                go_wp2_with fail
                exact ⟨⟨q + 1, hlc, rfl, int_eq (by have := HS8.out; have := H8.out; have := HE8.out; have := HZ8.out; omega), int_eq (by have := HS1.out; have := H1.out; have := HE1.out; have := HZ1.out; omega), Lib.hid (gr_alloc HT.out _)⟩, by simp [intOf]; omega⟩
              · by_cases o13 : i.op = 13
                · skip
                  have n16 : (i.op == 16) = false := by simp; omega
                  have n2 : (i.op == 2) = false := by simp; omega
                  have n13 : (i.op == 13) = true := by simp; omega
                  have HE8 := Lib.hid (callN_no o16)
                  have HE1 := Lib.hid (baseN_yes (i := i) (by omega))
                  clear o16 o2 o13
                  go_wp2_with fail
                  exact ⟨⟨q + 1, hlc, rfl, int_eq (by have := HS8.out; have := H8.out; have := HE8.out; have := HZ8.out; omega), int_eq (by have := HS1.out; have := H1.out; have := HE1.out; have := HZ1.out; omega), Lib.hid (gr_alloc HT.out _)⟩, by simp [intOf]; omega⟩
                · skip
                  have n16 : (i.op == 16) = false := by simp; omega
                  have n2 : (i.op == 2) = false := by simp; omega
                  have n13 : (i.op == 13) = false := by simp; omega
                  have HE8 := Lib.hid (callN_no o16)
                  have HE1 := Lib.hid (baseN_no (i := i) (by omega))
                  clear o16 o2 o13
                  go_wp2_with fail
                  exact ⟨⟨q + 1, hlc, rfl, int_eq (by have := HS8.out; have := H8.out; have := HE8.out; have := HZ8.out; omega), int_eq (by have := HS1.out; have := H1.out; have := HE1.out; have := HZ1.out; omega), Lib.hid (gr_alloc HT.out _)⟩, by simp [intOf]; omega⟩
          · obtain rfl : q = f.code.length := by omega
            have e8 := sumK_succ (g := callN) HX.out
            have e1 := sumK_succ (g := baseN) HX.out
            have HE8 := Lib.hid e8
            have HE1 := Lib.hid e1
            clear e8 e1
            go_wp2_with fail
            exact ⟨⟨k + 1, hlt, rfl, int_eq (by have := HE8.out; omega), int_eq (by have := HE1.out; omega), HT⟩, by simp [intOf]; omega⟩
      · obtain rfl : k = p.fns.length := by omega
        have hm8 := sumK_small HD.out.ok.small (fun f _ i _ => callN_le i) p.fns.length (Nat.le_refl _)
        have hm1 := sumK_small HD.out.ok.small (fun f _ i _ => baseN_le i) p.fns.length (Nat.le_refl _)
        generalize sumK callN p.fns p.fns.length = T8 at *
        generalize sumK baseN p.fns p.fns.length = T1 at *
        have HM8 := Lib.hid hm8
        have HM1 := Lib.hid hm1
        clear hm8 hm1
        go_wp2_with fail
        go_loopw [5, 6, 10] (fun s t i wr => ∃ (r : Nat) (x y : Int), r ≤ L.length ∧ i = .int .i64 r ∧ s = .int .i64 x ∧ t = .int .i64 y ∧ Hid (x = (T8 : Int) - ((L.take r).countP (isK 8) : Nat) ∧ y = (T1 : Int) - ((L.take r).countP (isK 1) : Nat)) ∧ Hid (w3.grownBy wr none)) (fun s t i _ => L.length - (intOf i).toNat)
        case atStart => exact ⟨0, T8, T1, Nat.zero_le _, rfl, rfl, rfl, Lib.hid ⟨by simp, by simp⟩, HG⟩
        case round =>
          obtain ⟨r, vx, vy, hr, rfl, rfl, rfl, HXY, HR⟩ := hrel
          clear b0 b1 b2 hbl
          by_cases hlr : r < L.length
          · have HQ := Lib.hid (show IntKind.i64.wrap ((r : Int) + 1) = (r : Int) + 1 by rw [IntKind.wrap_i64]; omega)
            obtain ⟨k, q, f, i, d, hf, hi, hd, h1, h2, h3, h4⟩ := HC.out r _ (List.getElem?_eq_getElem hlr)
            have HIC := Lib.hid (fun (h : d.kind = 8) => consI_isCall hd h)
            have HT8 := Lib.hid (take_count (P := isK 8) (List.getElem?_eq_getElem hlr))
            have HT1 := Lib.hid (take_count (P := isK 1) (List.getElem?_eq_getElem hlr))
            have HTL8 := Lib.hid (take_count_le (P := isK 8) (L := L) (r + 1))
            have HTL1 := Lib.hid (take_count_le (P := isK 1) (L := L) (r + 1))
            have hka := (HKA.out _ (List.getElem_mem hlr)).1
            obtain ⟨da, rfl, e0, e1, e2, e3, e4, e5, e6, e7, e8⟩ := kon_cells (HL.out.keep (CellsK.of HR.out)) hlr
            generalize L[r]'hlr = x at *
            rw [hka] at e6
            rw [h4] at e6 hka
            rw [h1] at e7
            rw [h2] at e8
            have hkl := (List.getElem?_eq_some_iff.1 hf).1
            have hql := (List.getElem?_eq_some_iff.1 hi).1
            have hfe := (List.getElem?_eq_some_iff.1 hf).2
            have hie := (List.getElem?_eq_some_iff.1 hi).2
            have HGW := Lib.hid (grownBy_trans HG3.out HR.out)
            obtain ⟨ad', ha', _, _, _, _, f4⟩ := fun_cells (HP.out.2.2.2.1.keep (CellsK.of HGW.out)) hkl
            rw [ha] at ha'
            injection ha' with ha'
            subst ha'
            have HFK := Lib.hid (HP.out.2.2.2.2 _ (List.getElem_mem hkl))
            rw [hfe] at f4 HFK
            obtain ⟨cd, hcd, c0, c1, c2, c3, c4, c5, c6, c7⟩ := ins_cells (HFK.out.2.2.2.1.keep (CellsK.of HGW.out)) hql
            have hia := (HFK.out.2.2.2.2 _ (List.getElem_mem hql)).1.1
            rw [hie] at c0 c1 c2 c3 c4 c5 c6 c7 hia
            rw [hia] at c7
            obtain ⟨b0, b1, b2⟩ := boxP (HB3.out.gr HR.out)
            rw [ha] at b1
            rw [hcd] at f4
            have hbl := lt_of_heap (HB3.out.gr HR.out)
            have hal := World.block_lt_of_cell? wr _ f4
            have hdl := World.block_lt_of_cell? wr _ e7
            have hdl0 := World.block_lt_of_cell? wr _ e0
            have hcl := World.block_lt_of_cell? wr _ c1
            dsimp only at hal hdl hcl
            have HKP := Lib.hid (fun (W : World) (g : wr.grownBy W none) => (show wr.grownBy W none ∧ W.cell? ⟨w.heap.size, 1, none⟩ = some (.slice (some ad) p.fns.length p.fc) ∧ W.cell? ⟨(da.add (r * 9)).block, (da.add (r * 9)).off + 7, none⟩ = some (.int .i64 k) ∧ W.cell? ⟨(da.add (r * 9)).block, (da.add (r * 9)).off + 8, none⟩ = some (.int .i64 q) ∧ W.cell? ⟨(ad.add (k * 5)).block, (ad.add (k * 5)).off + 4, none⟩ = some (.slice (some cd) f.code.length f.cc) ∧ W.cell? (cd.add (q * 8)) = some (.int .i64 i.op) ∧ W.cell? ⟨(cd.add (q * 8)).block, (cd.add (q * 8)).off + 1, none⟩ = some (.int .i64 i.a) ∧ W.cell? ⟨(cd.add (q * 8)).block, (cd.add (q * 8)).off + 2, none⟩ = some (.int .i64 i.b) ∧ W.cell? ⟨(cd.add (q * 8)).block, (cd.add (q * 8)).off + 3, none⟩ = some (.int .i64 i.c) ∧ W.cell? ⟨(cd.add (q * 8)).block, (cd.add (q * 8)).off + 4, none⟩ = some (.int .i64 i.w) ∧ W.cell? ⟨(cd.add (q * 8)).block, (cd.add (q * 8)).off + 5, none⟩ = some (.int .i64 i.n) ∧ W.cell? ⟨(cd.add (q * 8)).block, (cd.add (q * 8)).off + 6, none⟩ = some (.string i.sign) ∧ W.cell? ⟨(cd.add (q * 8)).block, (cd.add (q * 8)).off + 7, none⟩ = some (.slice i.aa i.args.length i.ac) from
              have K := CellsK.of g
              ⟨g, K.2 _ _ b1, K.2 _ _ e7, K.2 _ _ e8, K.2 _ _ f4, K.2 _ _ c0, K.2 _ _ c1, K.2 _ _ c2, K.2 _ _ c3, K.2 _ _ c4, K.2 _ _ c5, K.2 _ _ c6, K.2 _ _ c7⟩))
            have HKE := Lib.hid (fun (W : World) (g : wr.grownBy W none) => (show W.cell? (da.add (r * 9)) = some (.int .i64 x.kind) ∧ W.cell? ⟨(da.add (r * 9)).block, (da.add (r * 9)).off + 6, none⟩ = some (.slice x.aa d.args.length x.ac) from
              have K := CellsK.of g
              ⟨K.2 _ _ e0, K.2 _ _ e6⟩))
            have HXK := Lib.hid h3
            clear h1 h2 h3 h4 hf hi hd hfe hie e0 e1 e2 e3 e4 e5 e6
            go_wp2_with fail
            go_region_held3 (fun W => wr.grownBy W none ∧ W.cell? ⟨w.heap.size, 1, none⟩ = some (.slice (some ad) p.fns.length p.fc) ∧ W.cell? ⟨(da.add (r * 9)).block, (da.add (r * 9)).off + 7, none⟩ = some (.int .i64 k) ∧ W.cell? ⟨(da.add (r * 9)).block, (da.add (r * 9)).off + 8, none⟩ = some (.int .i64 q) ∧ W.cell? ⟨(ad.add (k * 5)).block, (ad.add (k * 5)).off + 4, none⟩ = some (.slice (some cd) f.code.length f.cc) ∧ W.cell? (cd.add (q * 8)) = some (.int .i64 i.op) ∧ W.cell? ⟨(cd.add (q * 8)).block, (cd.add (q * 8)).off + 1, none⟩ = some (.int .i64 i.a) ∧ W.cell? ⟨(cd.add (q * 8)).block, (cd.add (q * 8)).off + 2, none⟩ = some (.int .i64 i.b) ∧ W.cell? ⟨(cd.add (q * 8)).block, (cd.add (q * 8)).off + 3, none⟩ = some (.int .i64 i.c) ∧ W.cell? ⟨(cd.add (q * 8)).block, (cd.add (q * 8)).off + 4, none⟩ = some (.int .i64 i.w) ∧ W.cell? ⟨(cd.add (q * 8)).block, (cd.add (q * 8)).off + 5, none⟩ = some (.int .i64 i.n) ∧ W.cell? ⟨(cd.add (q * 8)).block, (cd.add (q * 8)).off + 6, none⟩ = some (.string i.sign) ∧ W.cell? ⟨(cd.add (q * 8)).block, (cd.add (q * 8)).off + 7, none⟩ = some (.slice i.aa i.args.length i.ac)) (first | assumption | (refine HKP.out _ ?_; (repeat (first | with_reducible exact grownBy_refl _ _ | with_reducible assumption | with_reducible refine World.grownBy.gr_drew ?_ | with_reducible refine gr_alloc ?_ _ | with_reducible refine grownBy_trans ?_ (by assumption))); done)) (fail)
            all_goals
              obtain ⟨W5, hW5⟩ : ∃ X, X = (wr.alloc (.cells #[.int .i64 i.op, .int .i64 i.a, .int .i64 i.b, .int .i64 i.c, .int .i64 i.w, .int .i64 i.n, .string i.sign, .slice i.aa i.args.length i.ac] 36)).drew := ⟨_, rfl⟩
              rw [← hW5]
              have HG5 := Lib.hid (show wr.grownBy W5 none by rw [hW5]; exact World.grownBy.gr_drew (gr_alloc (grownBy_refl _ _) _))
              have HBX := Lib.hid (show BoxC #[.int .i64 i.op, .int .i64 i.a, .int .i64 i.b, .int .i64 i.c, .int .i64 i.w, .int .i64 i.n, .string i.sign, .slice i.aa i.args.length i.ac] 36 wr.heap.size W5 by rw [hW5]; exact heap_alloc_new wr _)
              clear hW5 HKP e7 e8 f4 c0 c1 c2 c3 c4 c5 c6 c7 b0 b1 b2 hbl hal hdl hdl0 hcl
              generalize wr.heap.size = B at *
              obtain ⟨k0, k6⟩ := HKE.out W5 HG5.out
              have x0 : W5.cell? ⟨B, 0, none⟩ = some (.int .i64 i.op) := HBX.out.cell rfl
              have x7 : W5.cell? ⟨B, 7, none⟩ = some (.slice i.aa i.args.length i.ac) := HBX.out.cell rfl
              have hb1 := HM8.out
              have hb2 := HM1.out
              have hb3 := HTL8.out
              have hb4 := HTL1.out
              rw [HN8.out] at hb3
              rw [HN1.out] at hb4
              have hbx := HXY.out
              have ht8 := HT8.out
              have ht1 := HT1.out
              by_cases hk8 : x.kind = 8
              · obtain ⟨hop, hal⟩ := HIC.out (by rw [← HXK.out]; exact hk8)
                have HP8 := Lib.hid (show isK 8 x = true by unfold isK; rw [hk8]; rfl)
                have HP1 := Lib.hid (show isK 1 x = false by unfold isK; rw [hk8]; rfl)
                rw [HP8.out] at ht8
                simp at ht8
                have hw : IntKind.i64.wrap (vx - 1) = vx - 1 := by rw [IntKind.wrap_i64]; omega
                rw [hk8] at k0
                rw [hal] at k6
                rw [hop] at x0
                have HK7 := Lib.hid (fun (W : World) (g : W5.grownBy W none) => (show W.cell? ⟨B, 0, none⟩ = some (.int .i64 16) ∧ W.cell? ⟨B, 7, none⟩ = some (.slice i.aa i.args.length i.ac) ∧ W.cell? ⟨(da.add (r * 9)).block, (da.add (r * 9)).off + 6, none⟩ = some (.slice x.aa i.args.length x.ac) from
                  have K := CellsK.of g
                  ⟨K.2 _ _ x0, K.2 _ _ x7, K.2 _ _ k6⟩))
                clear hb1 hb2 hb3 hb4 hbx ht8 ht1 hop hal hk8
                go_wp2_with fail
                go_region_held3 (fun W => W.cell? ⟨B, 0, none⟩ = some (.int .i64 16) ∧ W.cell? ⟨B, 7, none⟩ = some (.slice i.aa i.args.length i.ac) ∧ W.cell? ⟨(da.add (r * 9)).block, (da.add (r * 9)).off + 6, none⟩ = some (.slice x.aa i.args.length x.ac)) (first | assumption | (refine HK7.out _ ?_; (repeat (first | with_reducible exact grownBy_refl _ _ | with_reducible assumption | with_reducible refine World.grownBy.gr_drew ?_ | with_reducible refine gr_alloc ?_ _ | with_reducible refine grownBy_trans ?_ (by assumption))); done)) (fail)
                all_goals
                  have k0 : W5.drew.cell? (da.add (r * 9)) = some (.int .i64 8) := k0
                  go_wp2_with fail
                  exact ⟨⟨r + 1, _, _, hlr, rfl, rfl, rfl, Lib.hid ⟨by have h1 := HXY.out.1; have h2 := HT8.out; rw [HP8.out] at h2; simp at h2; omega, by have h1 := HXY.out.2; have h2 := HT1.out; rw [HP1.out] at h2; simp at h2; omega⟩, Lib.hid ((grownBy_trans HR.out HG5.out).gr_drew)⟩, by simp [intOf]; omega⟩
              · have n8 : (x.kind == 8) = false := by simpa using hk8
                have HP8 := Lib.hid (show isK 8 x = false from n8)
                clear hb1 hb3 ht8
                by_cases hk1 : x.kind = 1
                · have HP1 := Lib.hid (show isK 1 x = true by unfold isK; rw [hk1]; rfl)
                  rw [HP1.out] at ht1
                  simp at ht1
                  have hw : IntKind.i64.wrap (vy - 1) = vy - 1 := by rw [IntKind.wrap_i64]; omega
                  rw [hk1] at k0 n8
                  clear hb2 hb4 hbx ht1 hk8 hk1
                  go_wp2_with fail
                  exact ⟨⟨r + 1, _, _, hlr, rfl, rfl, rfl, Lib.hid ⟨by have h1 := HXY.out.1; have h2 := HT8.out; rw [HP8.out] at h2; simp at h2; omega, by have h1 := HXY.out.2; have h2 := HT1.out; rw [HP1.out] at h2; simp at h2; omega⟩, Lib.hid (grownBy_trans HR.out HG5.out)⟩, by simp [intOf]; omega⟩
                · have n1 : (x.kind == 1) = false := by simpa using hk1
                  have HP1 := Lib.hid (show isK 1 x = false from n1)
                  clear hb2 hb4 hbx ht1 hk8 hk1
                  go_wp2_with fail
                  exact ⟨⟨r + 1, _, _, hlr, rfl, rfl, rfl, Lib.hid ⟨by have h1 := HXY.out.1; have h2 := HT8.out; rw [HP8.out] at h2; simp at h2; omega, by have h1 := HXY.out.2; have h2 := HT1.out; rw [HP1.out] at h2; simp at h2; omega⟩, Lib.hid (grownBy_trans HR.out HG5.out)⟩, by simp [intOf]; omega⟩
          · obtain rfl : r = L.length := by omega
            have hxy := HXY.out
            rw [List.take_length, HN8.out, HN1.out] at hxy
            obtain rfl : vx = 0 := by omega
            obtain rfl : vy = 0 := by omega
            clear hxy
            go_wp2_with fail
            go_ret
            exact ⟨rfl, grownBy_trans HG3.out HR.out⟩

end Go.Proofs.YtajmkdbokdjmeaaGreat
