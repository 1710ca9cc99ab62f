/- Merged: KgR, IVd. -/
import Derived.Test.YtajmkdbokdjmeaaGreatMk17
import Derived.ProofKit
import Derived.OpenShut
import Derived.Deep.Slices
import Derived.SizedLaws
import Derived.Below
import Derived.ChangeOld
import Derived.ShutString
/- GenReturns, walked. -/
namespace Go.Proofs.YtajmkdbokdjmeaaGreat
open Go.RowKit
theorem copyN_7 {i : Ins} (h : i.op = 7) : copyN i = if i.w = 4 then 0 else 1 := by unfold copyN; rw [if_pos h]
theorem copyN_15 {i : Ins} (h : i.op = 15) : copyN i = i.args.length + 1 := by unfold copyN; rw [if_neg (by omega), if_pos h]
theorem copyN_19 {i : Ins} (h : i.op = 19) : copyN i = if 0 ≤ i.a then 1 else 0 := by unfold copyN; rw [if_neg (by omega), if_neg (by omega), if_pos h]
theorem copyN_else {i : Ins} (h7 : ¬ i.op = 7) (h15 : ¬ i.op = 15) (h19 : ¬ i.op = 19) : copyN i = 0 := by unfold copyN; rw [if_neg h7, if_neg h15, if_neg h19]
theorem copyN_le {m : Nat} {i : Ins} (h : SmallI m i) : copyN i ≤ 4001 := by
  by_cases h7 : i.op = 7
  · rw [copyN_7 h7]; split <;> omega
  · by_cases h15 : i.op = 15
    · rw [copyN_15 h15]; have := (h.1 h15).2.2; omega
    · by_cases h19 : i.op = 19
      · rw [copyN_19 h19]; split <;> omega
      · rw [copyN_else h7 h15 h19]; omega
theorem copyOk_of {p : Prg} (h : GoodP p) : ∀ f ∈ p.fns, ∀ i ∈ f.code, (i.op = 7 → i.w = 1 ∨ i.w = 4 ∨ i.w = 8) ∧ (i.op = 19 → -1 ≤ i.a) := by
  intro f hf i hi
  refine ⟨fun e => ?_, (docOK_of h).ret f hf i hi⟩
  obtain ⟨j, hj⟩ := List.getElem?_of_mem hf
  obtain ⟨c, hc⟩ := List.getElem?_of_mem hi
  have ho := (othB_of ((h.fns j f hj).2.2 c i hc)).2
  unfold othB at ho
  simp [e] at ho
  unfold widB at ho
  simp at ho
  omega
set_option maxRecDepth 100000 in
set_option maxHeartbeats 16000000 in
theorem returns_walk (p : Prg) (w : World) (hp : PrgOk w p) : Calls Tryz.prog 5 #[prgV p] w fun e w' => e = .returned (.bool true) ∧ w.grownBy w' none := by
  have HP := Lib.hid hp
  have HG0 := Lib.hid (gr_alloc (grownBy_refl w none) (.cells (prgC p) 25))
  have HB0 := Lib.hid (BoxC.new w (prgC p) 25)
  clear hp
  unfold prgV
  unfold prgC at HG0 HB0
  unfold prgC
  go_enter Tryz.func5, Tryz.ntmps5
  go_wp2_with fail
  refine (shown17 _).mono ?_
  rintro e w1 ⟨rfl, hg1⟩
  have HG1 := Lib.hid (grownBy_trans HG0.out hg1)
  have HB1 := Lib.hid (show BoxC (prgC p) 25 w.heap.size w1 from BoxC.gr HB0.out hg1)
  obtain ⟨b0, b1, b2⟩ := boxP HB1.out
  clear hg1 HB0 HG0
  go_wp2_with fail
  refine (show Calls Tryz.prog 9 #[.agg #[.slice p.sa p.sites.length p.sc, .slice p.fa p.fns.length p.fc, .int .i64 p.main]] w1 _ from may_any p w1 (HP.out.keep (CellsK.of HG1.out))).mono ?_
  rintro e w2 ⟨mb, rfl, hmb, hg2⟩
  have HG2 := Lib.hid (grownBy_trans HG1.out hg2)
  have HB2 := Lib.hid (HB1.out.gr hg2)
  have HMB := Lib.hid hmb
  clear hg2 HG1 HB1 b0 b1 b2 hmb
  obtain ⟨b0, b1, b2⟩ := boxP HB2.out
  rcases mb with _ | _
  · go_wp2_with fail
    go_ret
    exact ⟨rfl, HG2.out⟩
  · have HD := Lib.hid (docOK_of (HMB.out rfl))
    have HCO := Lib.hid (copyOk_of (HMB.out rfl))
    have hlen := HD.out.ok.small.1
    have HLB := Lib.hid (genK_len HD.out.ok p.fns.length (Nat.le_refl _))
    have hp0 : 0 < p.fns.length := by have := inB_iff (HMB.out rfl).main; omega
    obtain ⟨ad, ha, _⟩ := fun_cells HP.out.2.2.2.1 hp0
    rw [ha]
    rw [ha] at b1
    go_wp2_with fail
    go_loopw [4, 5] (fun s i wr => ∃ k : Nat, k ≤ p.fns.length ∧ i = .int .i64 k ∧ s = .int .i64 (sumK copyN p.fns k : Nat) ∧ Hid (w2.grownBy wr none)) (fun s i _ => p.fns.length - (intOf i).toNat)
    case atStart => exact ⟨0, Nat.zero_le _, rfl, rfl, Lib.hid (grownBy_refl _ _)⟩
    case round =>
      obtain ⟨k, hk, rfl, rfl, HG⟩ := hrel
      clear b0 b1 b2
      have hbw := HB2.out.gr HG.out
      obtain ⟨b0, b1, b2⟩ := boxP hbw
      rw [ha] at b1
      have hbl := lt_of_heap hbw
      clear hbw
      by_cases hlt : k < p.fns.length
      · have HQ := Lib.hid (show IntKind.i64.wrap ((k : Int) + 1) = (k : Int) + 1 by rw [IntKind.wrap_i64]; omega)
        have hx := List.getElem?_eq_getElem hlt
        have HX := Lib.hid hx
        have HFM := Lib.hid (List.getElem_mem hlt)
        have HFK := Lib.hid (HP.out.2.2.2.2 _ (List.getElem_mem hlt))
        have HFS := Lib.hid (HD.out.ok.small.2 _ (List.getElem_mem hlt))
        have HFC := Lib.hid (fun (W : World) (g : w.grownBy W none) => (fun_cells (HP.out.2.2.2.1.keep (CellsK.of g)) hlt))
        generalize p.fns[k]'hlt = f at *
        have hfc : f.code.length ≤ 4000 := HFS.out.2.2
        clear hx
        go_wp2_with fail
        go_loopw [4, 6] (fun s i wr => ∃ q : Nat, q ≤ f.code.length ∧ i = .int .i64 q ∧ s = .int .i64 (sumK copyN p.fns k + sumC copyN f.code q : Nat) ∧ Hid (w2.grownBy wr none)) (fun s i _ => f.code.length - (intOf i).toNat)
        case atStart => exact ⟨0, Nat.zero_le _, rfl, rfl, HG⟩
        case round =>
          obtain ⟨q, hq, rfl, rfl, HT⟩ := hrel
          have HQ2 := Lib.hid (show IntKind.i64.wrap ((q : Int) + 1) = (q : Int) + 1 by rw [IntKind.wrap_i64]; omega)
          clear b0 b1 b2 hbl
          have hbw := HB2.out.gr HT.out
          obtain ⟨b0, b1, b2⟩ := boxP hbw
          have hbl := lt_of_heap hbw
          clear hbw
          rw [ha] at b1
          have HTW := Lib.hid (grownBy_trans HG2.out HT.out)
          obtain ⟨ad', ha', _, _, _, _, f4⟩ := HFC.out _ HTW.out
          rw [ha] at ha'
          injection ha' with ha'
          subst ha'
          by_cases hlc : q < f.code.length
          · obtain ⟨cd, hcd, c0, c1, c2, c3, c4, c5, c6, c7⟩ := ins_cells (HFK.out.2.2.2.1.keep (CellsK.of HTW.out)) hlc
            have hia := (HFK.out.2.2.2.2 _ (List.getElem_mem hlc)).1.1
            have hy := List.getElem?_eq_getElem hlc
            have h8 := sumC_succ (g := copyN) hy
            have hk8 := sumK_small HD.out.ok.small (fun f hf i hi => copyN_le (HD.out.ok.ins f hf i hi)) k (Nat.le_of_lt hlt)
            have hc8 := sumC_small HD.out.ok.small HFM.out (fun i hi => copyN_le (HD.out.ok.ins f HFM.out i hi)) q hq
            have hi8 := copyN_le (HD.out.ok.ins f HFM.out _ (List.getElem_mem hlc))
            have HIS := Lib.hid (HD.out.ok.ins f HFM.out _ (List.getElem_mem hlc))
            generalize f.code[q]'hlc = i at *
            rw [hia] at c7
            generalize hs8 : sumC copyN f.code (q + 1) = S8 at *
            have HS8 := Lib.hid hs8
            generalize sumK copyN p.fns k = K8 at *
            generalize sumC copyN f.code q = C8 at *
            have H8 := Lib.hid h8
            have HBD := Lib.hid (show K8 + C8 ≤ 4000000000 by omega)
            clear hs8 hy hk8 hc8 h8 hia
            generalize hz8 : K8 + C8 = Z8 at *
            have HZ8 := Lib.hid hz8
            clear hz8
            have hw8 : IntKind.i64.wrap ((Z8 : Int) + 1) = (Z8 : Int) + 1 := by rw [IntKind.wrap_i64]; have := HBD.out; omega
            rw [hcd] at f4
            by_cases o15 : i.op = 15
            · have n15 : (i.op == 15) = true := by simpa using o15
              have n19 : (i.op == 19) = false := by simp; omega
              have n7 : (i.op == 7) = false := by simp; omega
              have HE8 := Lib.hid (copyN_15 o15)
              have hal := (HIS.out.1 o15).2.2
              have hw9 : IntKind.i64.wrap ((Z8 : Int) + 1 + (i.args.length : Int)) = (Z8 : Int) + 1 + (i.args.length : Int) := by rw [IntKind.wrap_i64]; have := HBD.out; omega
              clear o15 hi8
              go_wp2_with fail
              exact ⟨⟨q + 1, hlc, rfl, int_eq (by have := HS8.out; have := H8.out; have := HE8.out; have := HZ8.out; omega), Lib.hid (gr_alloc HT.out _)⟩, by simp [intOf]; omega⟩
            · have n15 : (i.op == 15) = false := by simpa using o15
              clear hi8
              by_cases o19 : i.op = 19
              · have n19 : (i.op == 19) = true := by simpa using o19
                have n7 : (i.op == 7) = false := by simp; omega
                by_cases h0 : 0 ≤ i.a
                · have d0 : decide (0 ≤ i.a) = true := by simpa using h0
                  have HE8 := Lib.hid (show copyN i = 1 by rw [copyN_19 o19, if_pos h0])
                  clear o15 o19 h0
                  go_wp2_with fail
                  exact ⟨⟨q + 1, hlc, rfl, int_eq (by have := HS8.out; have := H8.out; have := HE8.out; have := HZ8.out; omega), Lib.hid (gr_alloc HT.out _)⟩, by simp [intOf]; omega⟩
                · have d0 : decide (0 ≤ i.a) = false := by simpa using h0
                  have HE8 := Lib.hid (show copyN i = 0 by rw [copyN_19 o19, if_neg h0])
                  clear o15 o19 h0
                  go_wp2_with fail
                  exact ⟨⟨q + 1, hlc, rfl, int_eq (by have := HS8.out; have := H8.out; have := HE8.out; have := HZ8.out; omega), Lib.hid (gr_alloc HT.out _)⟩, by simp [intOf]; omega⟩
              · have n19 : (i.op == 19) = false := by simpa using o19
                by_cases o7 : i.op = 7
                · have n7 : (i.op == 7) = true := by simpa using o7
                  by_cases h4 : i.w = 4
                  · have d4 : (i.w != 4) = false := by rw [h4]; rfl
                    have HE8 := Lib.hid (show copyN i = 0 by rw [copyN_7 o7, if_pos h4])
                    clear o15 o19 o7 h4
                    go_wp2_with fail
                    exact ⟨⟨q + 1, hlc, rfl, int_eq (by have := HS8.out; have := H8.out; have := HE8.out; have := HZ8.out; omega), Lib.hid (gr_alloc HT.out _)⟩, by simp [intOf]; omega⟩
                  · have d4 : (i.w != 4) = true := by simpa using h4
                    have HE8 := Lib.hid (show copyN i = 1 by rw [copyN_7 o7, if_neg h4])
                    clear o15 o19 o7 h4
                    go_wp2_with fail
                    exact ⟨⟨q + 1, hlc, rfl, int_eq (by have := HS8.out; have := H8.out; have := HE8.out; have := HZ8.out; omega), Lib.hid (gr_alloc HT.out _)⟩, by simp [intOf]; omega⟩
                · have n7 : (i.op == 7) = false := by simpa using o7
                  have HE8 := Lib.hid (copyN_else o7 o15 o19)
                  clear o15 o19 o7
                  go_wp2_with fail
                  exact ⟨⟨q + 1, hlc, rfl, int_eq (by have := HS8.out; have := H8.out; have := HE8.out; have := HZ8.out; omega), Lib.hid (gr_alloc HT.out _)⟩, by simp [intOf]; omega⟩
          · obtain rfl : q = f.code.length := by omega
            have e8 := sumK_succ (g := copyN) HX.out
            have HE8 := Lib.hid e8
            clear e8
            go_wp2_with fail
            exact ⟨⟨k + 1, hlt, rfl, int_eq (by have := HE8.out; omega), HT⟩, by simp [intOf]; omega⟩
      · obtain rfl : k = p.fns.length := by omega
        have HG3' := Lib.hid (grownBy_trans HG2.out HG.out)
        have HB3' := Lib.hid (HB2.out.gr HG.out)
        have hm8 := sumK_small HD.out.ok.small (fun f hf i hi => copyN_le (HD.out.ok.ins f hf i hi)) p.fns.length (Nat.le_refl _)
        have HM8 := Lib.hid hm8
        have HGE := Lib.hid (show Calls Tryz.prog 14 #[.agg #[.slice p.sa p.sites.length p.sc, .slice (some ad) p.fns.length p.fc, .int .i64 p.main]] wr (GenRet wr (genK p.fns p.fns.length)) from by
          have h := Gen_any p wr (HP.out.keep (CellsK.of HG3'.out)) HD.out.ok
          unfold prgV prgC at h
          rw [ha] at h
          exact h)
        clear hm8
        go_wp2_with fail
        refine HGE.out.mono ?_
        rintro e w3 ⟨A, c, L, rfl, hc0, hL, hK, hb, hg3, _⟩
        have HG3 := Lib.hid (grownBy_trans HG3'.out hg3)
        have HL := Lib.hid hL
        have hll : L.length ≤ 40000000000 := by have := HLB.out; rw [← hb, List.length_map] at this; omega
        have HN2 := Lib.hid (show L.countP (isK 2) = sumK copyN p.fns p.fns.length by rw [count_bare (isK_bare 2) hb]; exact genK_count (isK_at 2) (fun f hf i hi k => consI_copy _ _ _ (HCO.out f hf i hi).1 (HCO.out f hf i hi).2) _ (Nat.le_refl _))
        generalize sumK copyN p.fns p.fns.length = T at *
        clear hg3 b0 b1 b2 hbl hL hK hc0 hb HGE
        go_wp2_with fail
        go_loopw [9, 10] (fun s i wr => ∃ r : Nat, r ≤ L.length ∧ i = .int .i64 r ∧ s = .int .i64 ((L.take r).countP (isK 2) : Nat) ∧ Hid (w3.grownBy wr none)) (fun s i _ => L.length - (intOf i).toNat)
        case atStart => exact ⟨0, Nat.zero_le _, rfl, rfl, Lib.hid (grownBy_refl _ _)⟩
        case round =>
          obtain ⟨r, hr, rfl, rfl, HR⟩ := hrel
          by_cases hlr : r < L.length
          · have HQ := Lib.hid (show IntKind.i64.wrap ((r : Int) + 1) = (r : Int) + 1 by rw [IntKind.wrap_i64]; omega)
            have HT1 := Lib.hid (take_count (P := isK 2) (List.getElem?_eq_getElem hlr))
            have htl := take_count_le (P := isK 2) (L := L) r
            rw [HN2.out] at htl
            obtain ⟨da, rfl, e0, _⟩ := kon_cells (HL.out.keep (CellsK.of HR.out)) hlr
            generalize L[r]'hlr = x at *
            generalize hcn : (L.take r).countP (isK 2) = N at *
            have HCN := Lib.hid hcn
            clear hcn
            have hw : IntKind.i64.wrap ((N : Int) + 1) = (N : Int) + 1 := by rw [IntKind.wrap_i64]; have := HM8.out; omega
            clear htl
            by_cases hk2 : x.kind = 2
            · have n2 : (x.kind == 2) = true := by simpa using hk2
              have HP2 := Lib.hid (show isK 2 x = true from n2)
              clear hk2
              go_wp2_with fail
              exact ⟨⟨r + 1, hlr, rfl, int_eq (by have h := HT1.out; rw [HP2.out] at h; simp at h; omega), HR⟩, by simp [intOf]; omega⟩
            · have n2 : (x.kind == 2) = false := by simpa using hk2
              have HP2 := Lib.hid (show isK 2 x = false from n2)
              clear hk2
              go_wp2_with fail
              exact ⟨⟨r + 1, hlr, rfl, int_eq (by have h := HT1.out; rw [HP2.out] at h; simp at h; omega), HR⟩, by simp [intOf]; omega⟩
          · obtain rfl : r = L.length := by omega
            have e9 : (L.take L.length).countP (isK 2) = T := by rw [List.take_length]; exact HN2.out
            rw [e9]
            clear e9
            go_wp2_with fail
            go_ret
            exact ⟨rfl, grownBy_trans HG3.out HR.out⟩

end Go.Proofs.YtajmkdbokdjmeaaGreat
/- An argument that is a program (plain statements: no tie, no card). -/
namespace Go.Proofs.YtajmkdbokdjmeaaGreat
open Go.ChangeShapes Go.WideShapes Go.ChangeAt Go.RowKit Go.Deep
theorem own : ownKnob Tryz.prog.godebug = none := by kernel_rfl
theorem cInt : Tryz.prog.cellsOf 3 = 1 := by kernel_rfl
theorem cI64 : Tryz.prog.cellsOf 2 = 1 := by kernel_rfl
theorem cStr : Tryz.prog.cellsOf 9 = 1 := by kernel_rfl
theorem csInt : Tryz.prog.cellsOf 28 = 1 := by kernel_rfl
theorem cInsn : Tryz.prog.cellsOf 36 = 8 := by kernel_rfl
theorem laidOut : laidOutB Tryz.prog = true := by kernel_rfl
theorem list_of {P : Nat → Int → Prop} : ∀ (n : Nat), (∀ j, j < n → ∃ x, P j x) → ∃ l : List Int, l.length = n ∧ ∀ j x, l[j]? = some x → P j x
  | 0, _ => ⟨[], rfl, fun j x h => by simp at h⟩
  | n + 1, h => by
    obtain ⟨l, hl, hp⟩ := list_of n (fun j hj => h j (by omega))
    obtain ⟨y, hy⟩ := h n (by omega)
    refine ⟨l ++ [y], by simp [hl], fun j x hx => ?_⟩
    by_cases hj : j < l.length
    · rw [List.getElem?_append_left hj] at hx
      exact hp j x hx
    · have : j < (l ++ [y]).length := (List.getElem?_eq_some_iff.1 hx).1
      simp at this
      obtain rfl : j = l.length := by omega
      simp at hx
      subst hx
      rw [hl]
      exact hy
section
variable {H : Type} {enc : TypeId × Value → H} {W : World} {base : Nat} {sp : Nat → Bool} {held : Bool}
set_option maxRecDepth 100000 in
/-- A slice of ints, as its datum tells. -/
theorem open_ints {n : Nat} {cs : List Value} {x : DataW H × List MemPlace} (h : DataW.trod enc Tryz.prog W base sp held n 28 cs = some x) :
    ∃ A len cap l, cs = [.slice A len cap] ∧ IntsAt W A len cap l ∧ (x.1 = .nil ∧ l = [] ∨ ∃ elems spare, x.1 = .slice elems spare ∧ elems.length = l.length) := by
  rcases open_slice Tryz.underlying28 h with ⟨rfl, rfl⟩ | ⟨a, len, cap, m, n', D, Pl, rfl, hb, hl, hm, hmm, rfl, hi⟩
  · exact ⟨none, 0, 0, [], rfl, IntsAt.nil W, .inl ⟨rfl, rfl⟩⟩
  · have hlm : len ≤ m := by rw [hmm]; split <;> omega
    obtain ⟨l, hll, hp⟩ := list_of (P := fun j x => W.cell? (a.add j) = some (.int .i64 x)) len (fun j hj => by
      obtain ⟨cs', hc, ht⟩ := hi j (by omega)
      rw [cInt, Nat.mul_one] at hc
      obtain ⟨y, rfl, _⟩ := DataW.trod_int Tryz.underlying3 ht
      obtain ⟨_, _, hat⟩ := World.cells?_some hc
      have := hat 0 (by decide)
      rw [add_add, Nat.add_zero] at this
      exact ⟨y, this⟩)
    exact ⟨some a, len, cap, l, rfl, ⟨hll.symm, .inr ⟨a, rfl, hp⟩⟩, .inr ⟨_, _, rfl, by simp [hll]⟩⟩
set_option maxRecDepth 100000 in
theorem open_ints_len {n : Nat} {cs : List Value} {x : DataW H × List MemPlace} (h : DataW.trod enc Tryz.prog W base sp held n 28 cs = some x) :
    ∃ A len cap l, cs = [.slice A len cap] ∧ IntsAt W A len cap l ∧ l.length ≤ maxLen := by
  obtain ⟨A, len, cap, l, e, hI, _⟩ := open_ints h
  refine ⟨A, len, cap, l, e, hI, ?_⟩
  rcases open_slice Tryz.underlying28 h with ⟨e2, _⟩ | ⟨a, len2, cap2, m, n', D, Pl, e2, hb, hl, hm, _⟩
  · rw [e] at e2
    simp only [List.cons.injEq, and_true, Value.slice.injEq] at e2
    have := hI.1
    omega
  · rw [e] at e2
    simp only [List.cons.injEq, and_true, Value.slice.injEq] at e2
    have := hI.1
    omega
set_option maxRecDepth 100000 in
theorem open_insn {n : Nat} {cs : List Value} {x : DataW H × List MemPlace} (h : DataW.trod enc Tryz.prog W base sp held n 36 cs = some x) :
    ∃ i : Ins, cs = (insC i).toList ∧ IntsAt W i.aa i.an i.ac i.args ∧ ∃ d0 d1 d2 d3 d4 d5 d6 d7, x.1 = .agg [d0, d1, d2, d3, d4, d5, d6, d7] ∧ (d7 = .nil ∧ i.args = [] ∨ ∃ elems spare, d7 = .slice elems spare ∧ elems.length = i.args.length) := by
  obtain ⟨xs, m, rfl, hx, hlen, hxl, hf⟩ := DataW.trod_struct Tryz.underlying36 h
  rw [cInsn] at hlen
  have hxl' : xs.length = 8 := hxl
  clear hxl
  match cs, hlen, xs, hxl' with
  | [a0, a1, a2, a3, a4, a5, a6, a7], _, [y0, y1, y2, y3, y4, y5, y6, y7], _ =>
    have f0 : DataW.trod enc Tryz.prog W base sp held m 3 (([a0, a1, a2, a3, a4, a5, a6, a7].drop 0).take (Tryz.prog.cellsOf 3)) = some y0 := hf 0 _ rfl
    have f1 : DataW.trod enc Tryz.prog W base sp held m 3 (([a0, a1, a2, a3, a4, a5, a6, a7].drop 1).take (Tryz.prog.cellsOf 3)) = some y1 := hf 1 _ rfl
    have f2 : DataW.trod enc Tryz.prog W base sp held m 3 (([a0, a1, a2, a3, a4, a5, a6, a7].drop 2).take (Tryz.prog.cellsOf 3)) = some y2 := hf 2 _ rfl
    have f3 : DataW.trod enc Tryz.prog W base sp held m 3 (([a0, a1, a2, a3, a4, a5, a6, a7].drop 3).take (Tryz.prog.cellsOf 3)) = some y3 := hf 3 _ rfl
    have f4 : DataW.trod enc Tryz.prog W base sp held m 3 (([a0, a1, a2, a3, a4, a5, a6, a7].drop 4).take (Tryz.prog.cellsOf 3)) = some y4 := hf 4 _ rfl
    have f5 : DataW.trod enc Tryz.prog W base sp held m 2 (([a0, a1, a2, a3, a4, a5, a6, a7].drop 5).take (Tryz.prog.cellsOf 2)) = some y5 := hf 5 _ rfl
    have f6 : DataW.trod enc Tryz.prog W base sp held m 9 (([a0, a1, a2, a3, a4, a5, a6, a7].drop 6).take (Tryz.prog.cellsOf 9)) = some y6 := hf 6 _ rfl
    have f7 : DataW.trod enc Tryz.prog W base sp held m 28 (([a0, a1, a2, a3, a4, a5, a6, a7].drop 7).take (Tryz.prog.cellsOf 28)) = some y7 := hf 7 _ rfl
    rw [cInt] at f0 f1 f2 f3 f4
    rw [cI64] at f5
    rw [cStr] at f6
    rw [csInt] at f7
    simp only [List.drop_zero, List.take_succ_cons, List.take_zero, List.drop_succ_cons] at f0 f1 f2 f3 f4 f5 f6 f7
    obtain ⟨n0, e0, _⟩ := DataW.trod_int Tryz.underlying3 f0
    obtain ⟨n1, e1, _⟩ := DataW.trod_int Tryz.underlying3 f1
    obtain ⟨n2, e2, _⟩ := DataW.trod_int Tryz.underlying3 f2
    obtain ⟨n3, e3, _⟩ := DataW.trod_int Tryz.underlying3 f3
    obtain ⟨n4, e4, _⟩ := DataW.trod_int Tryz.underlying3 f4
    obtain ⟨n5, e5, _⟩ := DataW.trod_int Tryz.underlying2 f5
    obtain ⟨s, e6, _⟩ := DataW.trod_string Tryz.underlying9 f6
    obtain ⟨A, len, cap, l, e7, hI, hd⟩ := open_ints f7
    simp only [List.cons.injEq, and_true] at e0 e1 e2 e3 e4 e5 e6 e7
    subst e0 e1 e2 e3 e4 e5 e6 e7
    exact ⟨⟨n0, n1, n2, n3, n4, n5, s, A, len, cap, l⟩, rfl, hI, y0.1, y1.1, y2.1, y3.1, y4.1, y5.1, y6.1, y7.1, by rw [hx]; rfl, hd⟩
end
theorem u16_nat {n : Int} (h : (Lit.int .u16 n).wf = true) : 0 ≤ n ∧ n < 65536 := by
  have h1 : IntKind.u16.min = 0 := rfl
  have h2 : IntKind.u16.max = 65535 := rfl
  simp [Lit.wf] at h
  omega
theorem u8_nat {n : Int} (h : (Lit.int .u8 n).wf = true) : 0 ≤ n ∧ n < 256 := by
  have h1 : IntKind.u8.min = 0 := rfl
  have h2 : IntKind.u8.max = 255 := rfl
  simp [Lit.wf] at h
  omega
theorem lists_of {α : Type} {P : Nat → α → Prop} : ∀ (n : Nat), (∀ j, j < n → ∃ x, P j x) → ∃ l : List α, l.length = n ∧ ∀ j x, l[j]? = some x → P j x
  | 0, _ => ⟨[], rfl, fun j x h => by simp at h⟩
  | n + 1, h => by
    obtain ⟨l, hl, hp⟩ := lists_of n (fun j hj => h j (by omega))
    obtain ⟨y, hy⟩ := h n (by omega)
    refine ⟨l ++ [y], by simp [hl], fun j x hx => ?_⟩
    by_cases hj : j < l.length
    · rw [List.getElem?_append_left hj] at hx
      exact hp j x hx
    · have : j < (l ++ [y]).length := (List.getElem?_eq_some_iff.1 hx).1
      simp at this
      obtain rfl : j = l.length := by omega
      simp at hx
      subst hx
      rw [hl]
      exact hy
theorem cFn : Tryz.prog.cellsOf 39 = 5 := by kernel_rfl
theorem cSite : Tryz.prog.cellsOf 70 = 8 := by kernel_rfl
theorem cT : Tryz.prog.cellsOf 47 = 4 := by kernel_rfl
theorem cProg : Tryz.prog.cellsOf 25 = 3 := by kernel_rfl
theorem csT : Tryz.prog.cellsOf 45 = 1 := by kernel_rfl
theorem csSite : Tryz.prog.cellsOf 22 = 1 := by kernel_rfl
theorem csFn : Tryz.prog.cellsOf 23 = 1 := by kernel_rfl
theorem csInsn : Tryz.prog.cellsOf 37 = 1 := by kernel_rfl
section
variable {H : Type} {enc : TypeId × Value → H} {W : World} {base : Nat} {sp : Nat → Bool} {held : Bool}
/-- Each weight of a datum is within reach. -/
def Wt (t : TypeId) (d : DataW H) : Prop := ∀ n ∈ d.weights Tryz.prog t, n ≤ reachBytes
theorem wt_all {e : TypeId} : ∀ {l : List (DataW H)} {d : DataW H}, d ∈ l → ∀ n ∈ d.weights Tryz.prog e, n ∈ DataW.weightsAll Tryz.prog e l
  | [], _, h, _, _ => by cases h
  | x :: r, d, h, n, hn => by
    unfold DataW.weightsAll
    rcases List.mem_cons.1 h with rfl | h
    · exact List.mem_append_left _ hn
    · exact List.mem_append_right _ (wt_all h n hn)
theorem wt_elem {t e : TypeId} {l s : List (DataW H)} {d : DataW H} (ht : Tryz.prog.underlying t = some (.slice e)) (h : Wt t (DataW.slice l s)) (hd : d ∈ l) : Wt e d := by
  intro n hn
  refine h n ?_
  unfold DataW.weights
  rw [ht]
  exact List.mem_cons_of_mem _ (List.mem_append_left _ (wt_all hd n hn))
theorem wt_field {t u : TypeId} {fs : Array Field} {l : List (DataW H)} {d : DataW H} {j : Nat} (ht : Tryz.prog.underlying t = some (.struct fs)) (h : Wt t (DataW.agg l)) (hj : (fs.toList.map (·.type))[j]? = some u) (hd : l[j]? = some d) : Wt u d := by
  intro n hn
  refine h n ?_
  unfold DataW.weights
  rw [ht]
  exact DataW.weights_mem_each hj hd n hn
theorem open_insn_ok {n : Nat} {cs : List Value} {x : DataW H × List MemPlace} (h : DataW.trod enc Tryz.prog W base sp held n 36 cs = some x) (hw : Wt 36 x.1) :
    ∃ i : Ins, cs = (insC i).toList ∧ InsOk W i := by
  obtain ⟨i, hc, hI, d0, d1, d2, d3, d4, d5, d6, d7, hx, hd⟩ := open_insn h
  refine ⟨i, hc, hI, ?_⟩
  rcases hd with ⟨_, h0⟩ | ⟨el, spr, rfl, hl⟩
  · rw [h0]; simp
  · rw [hx] at hw
    have h7 : Wt 28 (DataW.slice el spr) := wt_field (j := 7) Tryz.underlying36 hw rfl rfl
    have m3 := h7 ((el.length + spr.length) * Tryz.prog.bytesOf 3) (by unfold DataW.weights; rw [Tryz.underlying28]; simp)
    rw [show Tryz.prog.bytesOf 3 = 8 by kernel_rfl] at m3
    unfold reachBytes at m3
    omega
/-- A slice of structs of m cells, opened. -/
theorem open_structs {α : Type} {C : α → Array Value} {m : Nat} {t e : TypeId} {Q : α → Prop} {n : Nat} {cs : List Value} {x : DataW H × List MemPlace} (ht : Tryz.prog.underlying t = some (.slice e)) (hm0 : Tryz.prog.cellsOf e = m)
    (hel : ∀ (n : Nat) (cs : List Value) (y : DataW H × List MemPlace), DataW.trod enc Tryz.prog W base sp held n e cs = some y → Wt e y.1 → ∃ a : α, cs = (C a).toList ∧ Q a) (hsz : ∀ a, (C a).size = m)
    (h : DataW.trod enc Tryz.prog W base sp held n t cs = some x) (hw : Wt t x.1) :
    ∃ A cap l, cs = [.slice A l.length cap] ∧ l.length ≤ maxLen ∧ StrAt C m W A l ∧ ∀ a ∈ l, Q a := by
  rcases open_slice ht h with ⟨rfl, rfl⟩ | ⟨a, len, cap, mm, n', D, Pl, rfl, hb, hl, hm, hmm, rfl, hi⟩
  · exact ⟨none, 0, [], rfl, Nat.zero_le _, .inl rfl, fun a h => by cases h⟩
  · have hlm : len ≤ mm := by rw [hmm]; split <;> omega
    obtain ⟨l, hll, hp⟩ := lists_of (P := fun j y => (∀ k u, (C y)[k]? = some u → W.cell? (a.add (j * m + k)) = some u) ∧ Q y) len (fun j hj => by
      obtain ⟨cs', hc, htr⟩ := hi j (by omega)
      rw [hm0] at hc
      obtain ⟨y, rfl, hq⟩ := hel _ _ _ htr (wt_elem ht hw (List.mem_map.2 ⟨j, by simpa using hj, rfl⟩))
      obtain ⟨_, _, hat⟩ := World.cells?_some hc
      refine ⟨y, fun k u hu => ?_, hq⟩
      have hk : k < m := by have := (Array.getElem?_eq_some_iff.1 hu).1; rw [hsz] at this; exact this
      have h1 := hat k hk
      rw [add_add] at h1
      rw [h1, Array.getElem?_toList]
      exact hu)
    subst hll
    refine ⟨some a, cap, l, rfl, by omega, .inr ⟨a, rfl, fun j y hy => (hp j y hy).1⟩, fun y hy => ?_⟩
    obtain ⟨j, hj⟩ := List.getElem?_of_mem hy
    exact (hp j y hj).2
set_option maxRecDepth 100000 in
theorem open_site {n : Nat} {cs : List Value} {x : DataW H × List MemPlace} (h : DataW.trod enc Tryz.prog W base sp held n 70 cs = some x) :
    ∃ s : Sit, cs = (sitC s).toList := by
  obtain ⟨xs, m, rfl, hx, hlen, hxl, hf⟩ := DataW.trod_struct Tryz.underlying70 h
  rw [cSite] at hlen
  have hxl' : xs.length = 5 := hxl
  clear hxl
  match cs, hlen, xs, hxl' with
  | [a0, a1, a2, a3, a4, a5, a6, a7], _, [y0, y1, y2, y3, y4], _ =>
    have f0 : DataW.trod enc Tryz.prog W base sp held m 3 (([a0, a1, a2, a3, a4, a5, a6, a7].drop 0).take (Tryz.prog.cellsOf 3)) = some y0 := hf 0 _ rfl
    have f1 : DataW.trod enc Tryz.prog W base sp held m 3 (([a0, a1, a2, a3, a4, a5, a6, a7].drop 1).take (Tryz.prog.cellsOf 3)) = some y1 := hf 1 _ rfl
    have f2 : DataW.trod enc Tryz.prog W base sp held m 3 (([a0, a1, a2, a3, a4, a5, a6, a7].drop 2).take (Tryz.prog.cellsOf 3)) = some y2 := hf 2 _ rfl
    have f3 : DataW.trod enc Tryz.prog W base sp held m 9 (([a0, a1, a2, a3, a4, a5, a6, a7].drop 3).take (Tryz.prog.cellsOf 9)) = some y3 := hf 3 _ rfl
    have f4 : DataW.trod enc Tryz.prog W base sp held m 47 (([a0, a1, a2, a3, a4, a5, a6, a7].drop 4).take (Tryz.prog.cellsOf 47)) = some y4 := hf 4 _ rfl
    rw [cInt] at f0 f1 f2
    rw [cStr] at f3
    rw [cT] at f4
    simp only [List.drop_zero, List.take_succ_cons, List.take_zero, List.drop_succ_cons] at f0 f1 f2 f3 f4
    obtain ⟨n0, e0, _⟩ := DataW.trod_int Tryz.underlying3 f0
    obtain ⟨n1, e1, _⟩ := DataW.trod_int Tryz.underlying3 f1
    obtain ⟨n2, e2, _⟩ := DataW.trod_int Tryz.underlying3 f2
    obtain ⟨s, e3, _⟩ := DataW.trod_string Tryz.underlying9 f3
    obtain ⟨xs', m', rfl, hx', hlen', hxl2, hf'⟩ := DataW.trod_struct Tryz.underlying47 f4
    have hxl3 : xs'.length = 4 := hxl2
    clear hxl2
    match xs', hxl3 with
    | [z0, z1, z2, z3], _ =>
      have k0 : DataW.trod enc Tryz.prog W base sp held m' 3 (([a4, a5, a6, a7].drop 0).take (Tryz.prog.cellsOf 3)) = some z0 := hf' 0 _ rfl
      have k1 : DataW.trod enc Tryz.prog W base sp held m' 3 (([a4, a5, a6, a7].drop 1).take (Tryz.prog.cellsOf 3)) = some z1 := hf' 1 _ rfl
      have k2 : DataW.trod enc Tryz.prog W base sp held m' 9 (([a4, a5, a6, a7].drop 2).take (Tryz.prog.cellsOf 9)) = some z2 := hf' 2 _ rfl
      have k3 : DataW.trod enc Tryz.prog W base sp held m' 45 (([a4, a5, a6, a7].drop 3).take (Tryz.prog.cellsOf 45)) = some z3 := hf' 3 _ rfl
      rw [cInt] at k0 k1
      rw [cStr] at k2
      rw [csT] at k3
      simp only [List.drop_zero, List.take_succ_cons, List.take_zero, List.drop_succ_cons] at k0 k1 k2 k3
      obtain ⟨n4, e4, _⟩ := DataW.trod_int Tryz.underlying3 k0
      obtain ⟨n5, e5, _⟩ := DataW.trod_int Tryz.underlying3 k1
      obtain ⟨s6, e6, _⟩ := DataW.trod_string Tryz.underlying9 k2
      have e7 : ∃ A p q, ([a7] : List Value) = [.slice A p q] := by
        rcases open_slice Tryz.underlying45 k3 with ⟨e, _⟩ | ⟨a, len, cap, _, _, _, _, e, _⟩
        · exact ⟨none, 0, 0, e⟩
        · exact ⟨some a, len, cap, e⟩
      obtain ⟨A, pp, qq, e7⟩ := e7
      simp only [List.cons.injEq, and_true] at e0 e1 e2 e3 e4 e5 e6 e7
      subst e0 e1 e2 e3 e4 e5 e6 e7
      exact ⟨⟨n0, n1, n2, s, n4, n5, s6, A, pp, qq⟩, rfl⟩
set_option maxRecDepth 100000 in
theorem open_fn {n : Nat} {cs : List Value} {x : DataW H × List MemPlace} (h : DataW.trod enc Tryz.prog W base sp held n 39 cs = some x) (hw : Wt 39 x.1) :
    ∃ f : Fun', cs = (funC f).toList ∧ FunOk W f := by
  obtain ⟨xs, m, rfl, hx, hlen, hxl, hf⟩ := DataW.trod_struct Tryz.underlying39 h
  rw [cFn] at hlen
  have hxl' : xs.length = 5 := hxl
  clear hxl
  match cs, hlen, xs, hxl' with
  | [a0, a1, a2, a3, a4], _, [y0, y1, y2, y3, y4], _ =>
    have f0 : DataW.trod enc Tryz.prog W base sp held m 9 (([a0, a1, a2, a3, a4].drop 0).take (Tryz.prog.cellsOf 9)) = some y0 := hf 0 _ rfl
    have f1 : DataW.trod enc Tryz.prog W base sp held m 3 (([a0, a1, a2, a3, a4].drop 1).take (Tryz.prog.cellsOf 3)) = some y1 := hf 1 _ rfl
    have f2 : DataW.trod enc Tryz.prog W base sp held m 3 (([a0, a1, a2, a3, a4].drop 2).take (Tryz.prog.cellsOf 3)) = some y2 := hf 2 _ rfl
    have f3 : DataW.trod enc Tryz.prog W base sp held m 28 (([a0, a1, a2, a3, a4].drop 3).take (Tryz.prog.cellsOf 28)) = some y3 := hf 3 _ rfl
    have f4 : DataW.trod enc Tryz.prog W base sp held m 37 (([a0, a1, a2, a3, a4].drop 4).take (Tryz.prog.cellsOf 37)) = some y4 := hf 4 _ rfl
    rw [cStr] at f0
    rw [cInt] at f1 f2
    rw [csInt] at f3
    rw [csInsn] at f4
    simp only [List.drop_zero, List.take_succ_cons, List.take_zero, List.drop_succ_cons] at f0 f1 f2 f3 f4
    rw [hx] at hw
    have hw4 : Wt 37 y4.1 := wt_field (j := 4) Tryz.underlying39 hw rfl rfl
    obtain ⟨s, e0, _⟩ := DataW.trod_string Tryz.underlying9 f0
    obtain ⟨n1, e1, _⟩ := DataW.trod_int Tryz.underlying3 f1
    obtain ⟨n2, e2, _⟩ := DataW.trod_int Tryz.underlying3 f2
    obtain ⟨A, len, cap, l, e3, hI, hlm⟩ := open_ints_len f3
    obtain ⟨B, cap2, c, e4, hc1, hc2, hc3⟩ := open_structs (C := insC) (Q := InsOk W) Tryz.underlying37 cInsn (fun n cs y => open_insn_ok) (fun _ => rfl) f4 hw4
    obtain rfl : len = l.length := hI.1
    simp only [List.cons.injEq, and_true] at e0 e1 e2 e3 e4
    subst e0 e1 e2 e3 e4
    exact ⟨⟨s, n1, n2, A, cap, l, B, cap2, c⟩, rfl, hI, hlm, hc1, hc2, hc3⟩
set_option maxRecDepth 100000 in
theorem open_prog {n : Nat} {cs : List Value} {x : DataW H × List MemPlace} (h : DataW.trod enc Tryz.prog W base sp held n 25 cs = some x) (hw : Wt 25 x.1) :
    ∃ p : Prg, cs = (prgC p).toList ∧ PrgOk W p := by
  obtain ⟨xs, m, rfl, hx, hlen, hxl, hf⟩ := DataW.trod_struct Tryz.underlying25 h
  rw [cProg] at hlen
  have hxl' : xs.length = 3 := hxl
  clear hxl
  match cs, hlen, xs, hxl' with
  | [a0, a1, a2], _, [y0, y1, y2], _ =>
    have f0 : DataW.trod enc Tryz.prog W base sp held m 22 (([a0, a1, a2].drop 0).take (Tryz.prog.cellsOf 22)) = some y0 := hf 0 _ rfl
    have f1 : DataW.trod enc Tryz.prog W base sp held m 23 (([a0, a1, a2].drop 1).take (Tryz.prog.cellsOf 23)) = some y1 := hf 1 _ rfl
    have f2 : DataW.trod enc Tryz.prog W base sp held m 3 (([a0, a1, a2].drop 2).take (Tryz.prog.cellsOf 3)) = some y2 := hf 2 _ rfl
    rw [csSite] at f0
    rw [csFn] at f1
    rw [cInt] at f2
    simp only [List.drop_zero, List.take_succ_cons, List.take_zero, List.drop_succ_cons] at f0 f1 f2
    rw [hx] at hw
    have hw0 : Wt 22 y0.1 := wt_field (j := 0) Tryz.underlying25 hw rfl rfl
    have hw1 : Wt 23 y1.1 := wt_field (j := 1) Tryz.underlying25 hw rfl rfl
    obtain ⟨A, cap, l, e0, s1, s2, _⟩ := open_structs (C := sitC) (Q := fun _ => True) Tryz.underlying22 cSite (fun n cs y h _ => by obtain ⟨s, hs⟩ := open_site h; exact ⟨s, hs, trivial⟩) (fun _ => rfl) f0 hw0
    obtain ⟨B, cap2, c, e1, f1', f2', f3'⟩ := open_structs (C := funC) (Q := FunOk W) Tryz.underlying23 cFn (fun n cs y => open_fn) (fun _ => rfl) f1 hw1
    obtain ⟨n2, e2, _⟩ := DataW.trod_int Tryz.underlying3 f2
    simp only [List.cons.injEq, and_true] at e0 e1 e2
    subst e0 e1 e2
    exact ⟨⟨A, cap, l, B, cap2, c, n2⟩, rfl, s1, f1', s2, f2', f3'⟩
set_option maxRecDepth 100000 in
/-- An argument that is a program. -/
theorem arg_prog {v : Value} {d : DataW H} {p : List MemPlace} {ts : List TypeId} {ds : List (DataW H)} (hwt : (DataW.weightsEach Tryz.prog (25 :: ts) (d :: ds)).all (· ≤ reachBytes) = true)
    (hv : Value.okWide Tryz.prog W .any base 25 v) (h : DataW.Trod enc Tryz.prog W 0 sp held 25 v d p) : ∃ q : Prg, v = prgV q ∧ PrgOk W q := by
  unfold Value.okWide at hv
  rw [Tryz.underlying25] at hv
  obtain ⟨cs, rfl, _, _⟩ := hv
  obtain ⟨fuel, hf⟩ := h
  obtain ⟨q, hc, hok⟩ := open_prog hf (fun n hn => by
    have m2 := DataW.weights_mem_each (P := Tryz.prog) (ts := 25 :: ts) (ds := d :: ds) (j := 0) rfl rfl _ hn
    exact of_decide_eq_true (List.all_eq_true.1 hwt _ m2))
  refine ⟨q, ?_, hok⟩
  have : cs.toList = (prgC q).toList := hc
  unfold prgV
  rw [← Array.toArray_toList (xs := cs), this]
end

end Go.Proofs.YtajmkdbokdjmeaaGreat
