/- ParseBlanks. -/
import Derived.Test.YtkbplcfehllbjaaGreatDoorCR4
import Derived.Test.YtkbplcfehllbjaaGreatDoorCG8
namespace Go.Proofs.YtkbplcfehllbjaaGreatDoor
open Go.RowKit
attribute [local go_sem ↓] Go.wp_at_zero Go.wp_at_succ
theorem toks_own {w : World} {B : Nat} {v : Value} {l : List T4} (h : w.ownsRow B 49 4 v l.length (cellsOf l)) : Toks w v l := (row_of h).toks
/-- What a source and the text of its tokens are read as, with a world of each. -/
theorem blank_pair {s t : ByteArray} {l : List T4} (h : tokensR s.data.toList = .ok l) (hts : (txt l).length = t.size) (ht : t.size ≤ 20000) (hd : ⟨(txt l).toArray⟩ = t) :
    (∃ n r r', parseP s.data.toList = .ok n r ∧ parseP t.data.toList = .ok n r') ∨ ∃ p q e, parseP s.data.toList = .err p e ∧ parseP t.data.toList = .err q e := by
  have h1 := parse_text h (by omega)
  have hd2 : txt l = t.data.toList := by rw [← hd]
  rw [hd2] at h1
  cases hp : parseP s.data.toList with
  | ok n r => rw [hp] at h1; obtain ⟨r', h1⟩ := h1; exact .inl ⟨n, r, r', rfl, h1⟩
  | err p e => rw [hp] at h1; obtain ⟨q, h1⟩ := h1; exact .inr ⟨p, q, e, rfl, h1⟩
set_option maxRecDepth 100000 in
set_option maxHeartbeats 4000000 in
theorem blanks_walk (s : ByteArray) (w : World) (hv : Vars w) : Calls Tryz.prog 6 #[.string s] w fun e w' => e = .returned (.bool true) ∧ w.grownBy w' none := by
  have HV := Lib.hid hv
  clear hv
  go_enter Tryz.func6, Tryz.ntmps6
  go_wp2_with fail
  refine (shown_any w HV.out).mono ?_
  rintro e w1 ⟨rfl, hg1⟩
  have HG1 := Lib.hid hg1
  clear hg1
  go_wp2_with fail
  refine (tokens_anyQ s w1 (HV.out.grow HG1.out)).mono ?_
  cases hT : tokensR s.data.toList with
  | bad p er =>
    have hne := (tokens_bad_facts hT).2
    rintro e w2 ⟨hb2, rfl⟩
    have HG2 := Lib.hid (grownBy_trans HG1.out (below_gr hb2))
    clear hb2 hT
    go_wp2_with fail
    refine (text_any (.slice none 0 0) [] w2 ⟨none, 0, rfl, fun h => absurd rfl h⟩ (by simp) (by decide)).mono ?_
    rintro e w3 ⟨rfl, hb3⟩
    have HG3 := Lib.hid (grownBy_trans HG2.out (below_gr hb3))
    clear hb3
    go_wp2_with fail
    go_ret
    exact ⟨rfl, HG3.out⟩
  | ok l =>
    rintro e w2 ⟨hb2, v, rfl, hrow⟩
    have HG2 := Lib.hid (grownBy_trans HG1.out (below_gr hb2))
    have HR := Lib.hid (toks_own hrow)
    obtain ⟨hl1, hl2⟩ := txt_bound hT
    obtain ⟨t, ht⟩ : ∃ t : ByteArray, ⟨(txt l).toArray⟩ = t := ⟨_, rfl⟩
    have hts : (txt l).length = t.size := by rw [← ht]; rfl
    have HT := Lib.hid hT
    have HTT := Lib.hid ht
    have HTS := Lib.hid hts
    clear hb2 hrow hT ht hts
    go_wp2_with fail
    refine (text_any v l w2 HR.out (by omega) (by omega)).mono ?_
    rw [HTT.out]
    rintro e w3 ⟨rfl, hb3⟩
    have HG3 := Lib.hid (grownBy_trans HG2.out (below_gr hb3))
    clear hb3
    by_cases hz : 20000 < t.size
    · have hz' : (20000 : Int) < t.size := by omega
      go_wp2_with fail
      go_ret
      exact ⟨rfl, HG3.out⟩
    · have hz' : ¬ (20000 : Int) < t.size := by omega
      go_wp2_with fail
      rcases blank_pair HT.out HTS.out (by omega) HTT.out with ⟨n, r, r', hp1, hp2⟩ | ⟨p, q, er, hp1, hp2⟩
      · have HP2 := Lib.hid hp2
        clear hp2
        refine (Parse_ok (HV.out.grow HG3.out) hp1).mono ?_
        rintro e w4 ⟨hg4, k, m, tk, tm, tx, nm, oa, on, oc, ka, kn, kc, rfl, hat, hof, hkd⟩
        have HAT := Lib.hid (show AsN n k tx m tk tm nm from hat.out)
        have HG4 := Lib.hid (gr_alloc (grownBy_trans HG3.out hg4) (.cells #[.int .i64 k, .string tx, .int .i64 m, .int .i64 tk, .int .i64 tm, .string nm, .slice oa on oc, .slice ka kn kc] 28))
        have HOF := Lib.hid (hof.out.grow (gr_alloc (grownBy_refl w4 none) (.cells #[.int .i64 k, .string tx, .int .i64 m, .int .i64 tk, .int .i64 tm, .string nm, .slice oa on oc, .slice ka kn kc] 28)))
        have HKD := Lib.hid (hkd.out.grow (gr_alloc (grownBy_refl w4 none) (.cells #[.int .i64 k, .string tx, .int .i64 m, .int .i64 tk, .int .i64 tm, .string nm, .slice oa on oc, .slice ka kn kc] 28)))
        have HB := Lib.hid (blk_new w4 (.cells #[.int .i64 k, .string tx, .int .i64 m, .int .i64 tk, .int .i64 tm, .string nm, .slice oa on oc, .slice ka kn kc] 28))
        clear hat hof hkd hg4 hp1
        go_wp2_with fail
        generalize w4.alloc (.cells #[.int .i64 k, .string tx, .int .i64 m, .int .i64 tk, .int .i64 tm, .string nm, .slice oa on oc, .slice ka kn kc] 28) = W at *
        generalize w4.heap.size = b at *
        refine (Parse_ok (HV.out.grow HG4.out) HP2.out).mono ?_
        rintro e w5 ⟨hg5, k', m', tk', tm', tx', nm', oa', on', oc', ka', kn', kc', rfl, hat2, hof2, hkd2⟩
        have HAT2 := Lib.hid (show AsN n k' tx' m' tk' tm' nm' from hat2.out)
        have HG5 := Lib.hid (gr_alloc (grownBy_trans HG4.out hg5) (.cells #[.int .i64 k', .string tx', .int .i64 m', .int .i64 tk', .int .i64 tm', .string nm', .slice oa' on' oc', .slice ka' kn' kc'] 28))
        have HOF2 := Lib.hid (hof2.out.grow (gr_alloc (grownBy_refl w5 none) (.cells #[.int .i64 k', .string tx', .int .i64 m', .int .i64 tk', .int .i64 tm', .string nm', .slice oa' on' oc', .slice ka' kn' kc'] 28)))
        have HKD2 := Lib.hid (hkd2.out.grow (gr_alloc (grownBy_refl w5 none) (.cells #[.int .i64 k', .string tx', .int .i64 m', .int .i64 tk', .int .i64 tm', .string nm', .slice oa' on' oc', .slice ka' kn' kc'] 28)))
        have HB2 := Lib.hid (blk_new w5 (.cells #[.int .i64 k', .string tx', .int .i64 m', .int .i64 tk', .int .i64 tm', .string nm', .slice oa' on' oc', .slice ka' kn' kc'] 28))
        have HOFo := Lib.hid ((HOF.out.grow hg5).grow (gr_alloc (grownBy_refl w5 none) (.cells #[.int .i64 k', .string tx', .int .i64 m', .int .i64 tk', .int .i64 tm', .string nm', .slice oa' on' oc', .slice ka' kn' kc'] 28)))
        have HKDo := Lib.hid ((HKD.out.grow hg5).grow (gr_alloc (grownBy_refl w5 none) (.cells #[.int .i64 k', .string tx', .int .i64 m', .int .i64 tk', .int .i64 tm', .string nm', .slice oa' on' oc', .slice ka' kn' kc'] 28)))
        have HBo := Lib.hid (blk_alloc (blk_call HB.out hg5 (by simp)) (.cells #[.int .i64 k', .string tx', .int .i64 m', .int .i64 tk', .int .i64 tm', .string nm', .slice oa' on' oc', .slice ka' kn' kc'] 28))
        have hbl := lt_of_heap (blk_call HB.out hg5 (by simp))
        obtain ⟨⟨p0, p1, p2, p3, p4, p5, p6, p7⟩, _⟩ := cells8_of _ b _ _ _ _ _ _ _ _ _ (blk_call HB.out hg5 (by simp))
        clear hat2 hof2 hkd2 hg5 HOF HKD HB
        go_wp2_with fail
        refine (same_vals n HAT.out HAT2.out HOFo.out HOF2.out HKDo.out HKD2.out).mono ?_
        rintro e w6 ⟨rfl, hg6⟩
        have HG6 := Lib.hid (grownBy_trans HG5.out hg6)
        clear hg6
        go_wp2_with fail
        go_ret
        exact ⟨rfl, HG6.out⟩
      · have hnz := parseP_nz hp1
        have HP2 := Lib.hid hp2
        clear hp2
        refine (Parse_bad (HV.out.grow HG3.out) hp1).mono ?_
        rintro e w4 ⟨hg4, rfl⟩
        unfold ndV zeroN
        simp only [Nd.kind, Nd.text, Nd.num, Nd.typ, Ty.kind, Ty.num, Ty.name]
        have HG4 := Lib.hid (gr_alloc (grownBy_trans HG3.out hg4) (.cells #[.int .i64 0, .string ⟨#[]⟩, .int .i64 0, .int .i64 0, .int .i64 0, .string ⟨#[]⟩, .slice none 0 0, .slice none 0 0] 28))
        have HB := Lib.hid (blk_new w4 (.cells #[.int .i64 0, .string ⟨#[]⟩, .int .i64 0, .int .i64 0, .int .i64 0, .string ⟨#[]⟩, .slice none 0 0, .slice none 0 0] 28))
        clear hg4 hp1
        go_wp2_with fail
        generalize w4.alloc (.cells #[.int .i64 0, .string ⟨#[]⟩, .int .i64 0, .int .i64 0, .int .i64 0, .string ⟨#[]⟩, .slice none 0 0, .slice none 0 0] 28) = W at *
        generalize w4.heap.size = b at *
        refine (Parse_bad (HV.out.grow HG4.out) HP2.out).mono ?_
        rintro e w5 ⟨hg5, rfl⟩
        unfold ndV zeroN
        simp only [Nd.kind, Nd.text, Nd.num, Nd.typ, Ty.kind, Ty.num, Ty.name]
        have HG5 := Lib.hid (gr_alloc (grownBy_trans HG4.out hg5) (.cells #[.int .i64 0, .string ⟨#[]⟩, .int .i64 0, .int .i64 0, .int .i64 0, .string ⟨#[]⟩, .slice none 0 0, .slice none 0 0] 28))
        have HB2 := Lib.hid (blk_new w5 (.cells #[.int .i64 0, .string ⟨#[]⟩, .int .i64 0, .int .i64 0, .int .i64 0, .string ⟨#[]⟩, .slice none 0 0, .slice none 0 0] 28))
        have HBo := Lib.hid (blk_alloc (blk_call HB.out hg5 (by simp)) (.cells #[.int .i64 0, .string ⟨#[]⟩, .int .i64 0, .int .i64 0, .int .i64 0, .string ⟨#[]⟩, .slice none 0 0, .slice none 0 0] 28))
        have hbl := lt_of_heap (blk_call HB.out hg5 (by simp))
        obtain ⟨⟨p0, p1, p2, p3, p4, p5, p6, p7⟩, _⟩ := cells8_of _ b _ _ _ _ _ _ _ _ _ (blk_call HB.out hg5 (by simp))
        clear hg5 HB
        go_wp2_with fail
        refine (same_vals (S := fun _ => False) (S' := fun _ => False) zeroN ⟨rfl, rfl, rfl, rfl, rfl, rfl⟩ ⟨rfl, rfl, rfl, rfl, rfl, rfl⟩ (RepOf.nil _ _) (RepOf.nil _ _) (RepK.nil _ _) (RepK.nil _ _)).mono ?_
        rintro e w6 ⟨rfl, hg6⟩
        have HG6 := Lib.hid (grownBy_trans HG5.out hg6)
        clear hg6
        go_wp2_with fail
        go_ret
        exact ⟨rfl, HG6.out⟩

end Go.Proofs.YtkbplcfehllbjaaGreatDoor
