/- ParseBrackets. -/
import Derived.Test.YtkbplcfehllbjaaGreatDoorCR4
import Derived.Test.YtkbplcfehllbjaaGreatDoorMkTop
namespace Go.Proofs.YtkbplcfehllbjaaGreatDoor
open Go.RowKit
attribute [local go_sem ↓] Go.wp_at_zero Go.wp_at_succ
set_option maxRecDepth 100000 in
set_option maxHeartbeats 4000000 in
theorem brackets_walk (s : ByteArray) (w : World) (hv : Vars w) : Calls Tryz.prog 3 #[.string s] w fun e w' => e = .returned (.bool true) ∧ w.grownBy w' none := by
  have HV := Lib.hid hv
  clear hv
  go_enter Tryz.func3, Tryz.ntmps3
  go_wp2_with fail
  refine (shown_any w HV.out).mono ?_
  rintro e w1 ⟨rfl, hg1⟩
  have HG1 := Lib.hid hg1
  clear hg1
  by_cases hs : 2000 < s.size
  · have hs' : (2000 : Int) < s.size := by omega
    go_wp2_with fail
    go_ret
    exact ⟨rfl, HG1.out⟩
  · have hs' : ¬ (2000 : Int) < s.size := by omega
    have hs2 : s.size ≤ 2000 := by omega
    obtain ⟨s1, hs1⟩ : ∃ s1 : ByteArray, (⟨#[118, 111, 105, 100, 32, 102, 40, 41, 32, 123, 32]⟩ ++ s ++ ⟨#[10, 59, 32, 125]⟩ : ByteArray) = s1 := ⟨_, rfl⟩
    obtain ⟨s2, hs3⟩ : ∃ s2 : ByteArray, (⟨#[118, 111, 105, 100, 32, 102, 40, 41, 32, 123, 32, 40, 32]⟩ ++ s ++ ⟨#[10, 41, 32, 47, 42, 32, 110, 32, 42, 47, 32, 59, 32, 125]⟩ : ByteArray) = s2 := ⟨_, rfl⟩
    have HS1 := Lib.hid (show s1.data.toList = preB ++ (s.data.toList ++ 10 :: sufA') by rw [← hs1]; simp [preB, sufA'])
    have HS2 := Lib.hid (show s2.data.toList = preB ++ ([40, 32] ++ (s.data.toList ++ 10 :: sufB)) by rw [← hs3]; simp [preB, sufB])
    go_wp2_with fail
    cases hR : parseP s1.data.toList with
    | err p er =>
      have hnz := parseP_nz hR
      refine (Parse_bad (HV.out.grow HG1.out) hR).mono ?_
      rintro e w2 ⟨hg2, rfl⟩
      unfold ndV zeroN
      simp only [Nd.kind, Nd.text, Nd.num, Nd.typ, Ty.kind, Ty.num, Ty.name]
      have HG2 := Lib.hid (gr_alloc (grownBy_trans HG1.out hg2) (.cells #[.int .i64 0, .string ⟨#[]⟩, .int .i64 0, .int .i64 0, .int .i64 0, .string ⟨#[]⟩, .slice none 0 0, .slice none 0 0] 28))
      have HB := Lib.hid (blk_new w2 (.cells #[.int .i64 0, .string ⟨#[]⟩, .int .i64 0, .int .i64 0, .int .i64 0, .string ⟨#[]⟩, .slice none 0 0, .slice none 0 0] 28))
      clear hg2 hR
      go_wp2_with fail
      generalize w2.alloc (.cells #[.int .i64 0, .string ⟨#[]⟩, .int .i64 0, .int .i64 0, .int .i64 0, .string ⟨#[]⟩, .slice none 0 0, .slice none 0 0] 28) = W at *
      generalize w2.heap.size = b at *
      refine (first_any 0 ⟨#[]⟩ 0 0 0 ⟨#[]⟩ zeroN (fun _ => False) none 0 0 none 0 0 W (RepK.nil _ _)).mono ?_
      rintro e w3 ⟨hg3, rfl⟩
      have HG3 := Lib.hid (grownBy_trans HG2.out hg3)
      clear hg3
      go_wp2_with fail
      go_ret
      exact ⟨rfl, gr_alloc HG3.out _⟩
    | ok a r =>
      refine (Parse_ok (HV.out.grow HG1.out) hR).mono ?_
      rintro e w2 ⟨hg2, k, m, tk, tm, tx, nm, oa, on, oc, ka, kn, kc, rfl, -, -, hkd⟩
      have HG2 := Lib.hid (gr_alloc (grownBy_trans HG1.out hg2) (.cells #[.int .i64 k, .string tx, .int .i64 m, .int .i64 tk, .int .i64 tm, .string nm, .slice oa on oc, .slice ka kn kc] 28))
      have HB := Lib.hid (blk_new w2 (.cells #[.int .i64 k, .string tx, .int .i64 m, .int .i64 tk, .int .i64 tm, .string nm, .slice oa on oc, .slice ka kn kc] 28))
      have HK := Lib.hid (hkd.out.grow (gr_alloc (grownBy_refl w2 none) (.cells #[.int .i64 k, .string tx, .int .i64 m, .int .i64 tk, .int .i64 tm, .string nm, .slice oa on oc, .slice ka kn kc] 28)))
      have HR := Lib.hid hR
      clear hg2 hkd hR
      go_wp2_with fail
      generalize w2.alloc (.cells #[.int .i64 k, .string tx, .int .i64 m, .int .i64 tk, .int .i64 tm, .string nm, .slice oa on oc, .slice ka kn kc] 28) = W at *
      generalize w2.heap.size = b at *
      refine (first_any k tx m tk tm nm a _ oa on oc ka kn kc W HK.out).mono ?_
      cases hF : firstN a with
      | none =>
        rintro e w3 ⟨hg3, rfl⟩
        have HG3 := Lib.hid (grownBy_trans HG2.out hg3)
        clear hg3
        go_wp2_with fail
        go_ret
        exact ⟨rfl, gr_alloc HG3.out _⟩
      | some x =>
        rintro e w3 ⟨hg3, kx, mx, tkx, tmx, txx, nmx, oax, onx, ocx, kax, knx, kcx, rfl, HAX, HOX, HKX⟩
        obtain ⟨f, r0, b0, st, e1, e2, e3, e4⟩ := firstN_some hF
        have HG3 := Lib.hid (gr_alloc (grownBy_trans HG2.out hg3) (.cells #[.int .i64 kx, .string txx, .int .i64 mx, .int .i64 tkx, .int .i64 tmx, .string nmx, .slice oax onx ocx, .slice kax knx kcx] 28))
        have HBX := Lib.hid (blk_new w3 (.cells #[.int .i64 kx, .string txx, .int .i64 mx, .int .i64 tkx, .int .i64 tmx, .string nmx, .slice oax onx ocx, .slice kax knx kcx] 28))
        have HOX1 := Lib.hid ((HOX.out.grow hg3).grow (gr_alloc (grownBy_refl w3 none) (.cells #[.int .i64 kx, .string txx, .int .i64 mx, .int .i64 tkx, .int .i64 tmx, .string nmx, .slice oax onx ocx, .slice kax knx kcx] 28)))
        have HKX1 := Lib.hid ((HKX.out.grow hg3).grow (gr_alloc (grownBy_refl w3 none) (.cells #[.int .i64 kx, .string txx, .int .i64 mx, .int .i64 tkx, .int .i64 tmx, .string nmx, .slice oax onx ocx, .slice kax knx kcx] 28)))
        have HF := Lib.hid hF
        have hb3 := blk_call HB.out hg3 (by simp)
        have b7 := cell_of_row _ _ 7 _ _ _ hb3
        simp at b7
        have hbl := lt_of_heap hb3
        have hK := HK.out.grow hg3
        clear hg3 HK HB HOX HKX hF hb3
        have hkn := hK.len
        obtain ⟨g1, _, _, _, ya, yn, yc, rfl, hg1, ⟨-, -, -, -, -, -, -, p7⟩, -, hf⟩ := hK.kidN 0 (by rw [e1]; simp)
        have p7' : w3.cell? ⟨g1, 7, none⟩ = some (.slice ya yn yc) := by simpa using p7
        have hf' : RepK w3 (fun g => w1.heap.size ≤ g) (.slice ya yn yc) f.kids := by
          have e5 : a.kids[0]'(by rw [e1]; simp) = f := by simp [e1]
          rw [e5] at hf; exact hf
        have hyn := hf'.len
        have hf0 : 0 < f.kids.length := by
          cases hf0 : f.kids with
          | nil => rw [hf0] at e2; cases e2
          | cons _ _ => simp
        obtain ⟨g2, _, _, _, za, zn, zc, rfl, hg2, ⟨-, -, -, -, -, -, -, q7⟩, -, hb0⟩ := hf'.kidN 0 hf0
        have q7' : w3.cell? ⟨g2, 7, none⟩ = some (.slice za zn zc) := by simpa using q7
        clear p7 q7 hf hK
        have hk0 : 0 < kn := by rw [hkn, e1]; simp
        have hy0 : 0 < yn := by omega
        by_cases hk1 : kn = 1
        · subst hk1
          by_cases hy1 : yn = 1
          · subst hy1
            have hfk : f.kids = [b0] := by
              cases hfk : f.kids with
              | nil => rw [hfk] at e2; cases e2
              | cons u l =>
                rw [hfk] at e2 hyn
                cases l with
                | nil => simp at e2; rw [e2]
                | cons _ _ => simp at hyn
            have hak : a.kids = [f] := by
              rw [e1] at hkn ⊢
              cases r0 with
              | nil => rfl
              | cons _ _ => simp at hkn
            have hb0' : RepK w3 (fun g => w1.heap.size ≤ g) (.slice za zn zc) b0.kids := by
              have e5 : f.kids[0]'hf0 = b0 := by simp [hfk]
              rw [e5] at hb0; exact hb0
            have hzn := hb0'.len
            rw [e3] at hzn
            have hz1 : zn = 1 := by simpa using hzn
            obtain ⟨g3, _, _, _, _, _, _, rfl, hg3, ⟨r0', -, -, -, -, -, -, -⟩, -, -⟩ := hb0'.kidN 0 (by rw [e3]; simp)
            have r0'' : w3.cell? ⟨g3, 0, none⟩ = some (.int .i64 st.kind) := by
              have e5 : b0.kids[0]'(by rw [e3]; simp) = st := by simp [e3]
              rw [e5] at r0'; simpa using r0'
            subst hz1
            clear r0' hb0 hb0' hf' hzn hkn hyn hk0 hy0
            by_cases hst : st.kind = 12
            · rw [hst] at r0''
              have HPB := Lib.hid (parse_brackets (by simpa using hs2) (HS1.out ▸ HR.out) hak hfk e3 hst)
              rw [← HS2.out] at HPB
              clear hst e1 e2 e3 e4 hak hfk
              go_wp2_with fail
              obtain ⟨x', -, hPB⟩ := HPB.out
              clear b7 p7' q7' r0'' hg1 hg2 hg3 hf0 hbl
              generalize w3.alloc (.cells #[.int .i64 kx, .string txx, .int .i64 mx, .int .i64 tkx, .int .i64 tmx, .string nmx, .slice oax onx ocx, .slice kax knx kcx] 28) = W3 at *
              generalize w3.heap.size = b2 at *
              rcases hPB with ⟨r2, hP⟩ | ⟨q, hP⟩
              · refine (Parse_ok (HV.out.grow HG3.out) hP).mono ?_
                rintro e w4 ⟨hg4, k', m', tk', tm', tx', nm', oa', on', oc', ka', kn', kc', rfl, -, -, hkd'⟩
                have HG4 := Lib.hid (gr_alloc (grownBy_trans HG3.out hg4) (.cells #[.int .i64 k', .string tx', .int .i64 m', .int .i64 tk', .int .i64 tm', .string nm', .slice oa' on' oc', .slice ka' kn' kc'] 28))
                have HK4 := Lib.hid (hkd'.out.grow (gr_alloc (grownBy_refl w4 none) (.cells #[.int .i64 k', .string tx', .int .i64 m', .int .i64 tk', .int .i64 tm', .string nm', .slice oa' on' oc', .slice ka' kn' kc'] 28)))
                have HBX4 := Lib.hid (blk_alloc (blk_call HBX.out hg4 (by simp)) (.cells #[.int .i64 k', .string tx', .int .i64 m', .int .i64 tk', .int .i64 tm', .string nm', .slice oa' on' oc', .slice ka' kn' kc'] 28))
                have HOX4 := Lib.hid ((HOX1.out.grow hg4).grow (gr_alloc (grownBy_refl w4 none) (.cells #[.int .i64 k', .string tx', .int .i64 m', .int .i64 tk', .int .i64 tm', .string nm', .slice oa' on' oc', .slice ka' kn' kc'] 28)))
                have HKX4 := Lib.hid ((HKX1.out.grow hg4).grow (gr_alloc (grownBy_refl w4 none) (.cells #[.int .i64 k', .string tx', .int .i64 m', .int .i64 tk', .int .i64 tm', .string nm', .slice oa' on' oc', .slice ka' kn' kc'] 28)))
                clear hg4 hkd' hP HBX HOX1 HKX1
                go_wp2_with fail
                generalize w4.alloc (.cells #[.int .i64 k', .string tx', .int .i64 m', .int .i64 tk', .int .i64 tm', .string nm', .slice oa' on' oc', .slice ka' kn' kc'] 28) = W4 at *
                generalize w4.heap.size = b3 at *
                refine (first_any k' tx' m' tk' tm' nm' a _ oa' on' oc' ka' kn' kc' W4 HK4.out).mono ?_
                rw [HF.out]
                rintro e w5 ⟨hg5, kz, mz, tkz, tmz, txz, nmz, oaz, onz, ocz, kaz, knz, kcz, rfl, HAZ, HOZ, HKZ⟩
                have HG5 := Lib.hid (gr_alloc (grownBy_trans HG4.out hg5) (.cells #[.int .i64 kz, .string txz, .int .i64 mz, .int .i64 tkz, .int .i64 tmz, .string nmz, .slice oaz onz ocz, .slice kaz knz kcz] 28))
                have HOX5 := Lib.hid ((HOX4.out.grow hg5).grow (gr_alloc (grownBy_refl w5 none) (.cells #[.int .i64 kz, .string txz, .int .i64 mz, .int .i64 tkz, .int .i64 tmz, .string nmz, .slice oaz onz ocz, .slice kaz knz kcz] 28)))
                have HKX5 := Lib.hid ((HKX4.out.grow hg5).grow (gr_alloc (grownBy_refl w5 none) (.cells #[.int .i64 kz, .string txz, .int .i64 mz, .int .i64 tkz, .int .i64 tmz, .string nmz, .slice oaz onz ocz, .slice kaz knz kcz] 28)))
                have HOZ5 := Lib.hid ((HOZ.out.grow hg5).grow (gr_alloc (grownBy_refl w5 none) (.cells #[.int .i64 kz, .string txz, .int .i64 mz, .int .i64 tkz, .int .i64 tmz, .string nmz, .slice oaz onz ocz, .slice kaz knz kcz] 28)))
                have HKZ5 := Lib.hid ((HKZ.out.grow hg5).grow (gr_alloc (grownBy_refl w5 none) (.cells #[.int .i64 kz, .string txz, .int .i64 mz, .int .i64 tkz, .int .i64 tmz, .string nmz, .slice oaz onz ocz, .slice kaz knz kcz] 28)))
                have hbx5 := blk_call HBX4.out hg5 (by simp)
                have hbl5 := lt_of_heap hbx5
                obtain ⟨⟨p0, p1, p2, p3, p4, p5, p6, p7⟩, _⟩ := cells8_of _ b2 _ _ _ _ _ _ _ _ _ hbx5
                clear hbx5 hg5 HBX4 HOX4 HKX4 HOZ HKZ HK4
                go_wp2_with fail
                refine (same_vals x HAX.out HAZ.out HOX5.out HOZ5.out HKX5.out HKZ5.out).mono ?_
                rintro e w6 ⟨rfl, hg6⟩
                have HG6 := Lib.hid (grownBy_trans HG5.out hg6)
                clear hg6
                go_wp2_with fail
                go_ret
                exact ⟨rfl, HG6.out⟩
              · refine (Parse_bad (HV.out.grow HG3.out) hP).mono ?_
                rintro e w4 ⟨hg4, rfl⟩
                unfold ndV zeroN
                simp only [Nd.kind, Nd.text, Nd.num, Nd.typ, Ty.kind, Ty.num, Ty.name]
                have HG4 := Lib.hid (gr_alloc (grownBy_trans HG3.out hg4) (.cells #[.int .i64 0, .string ⟨#[]⟩, .int .i64 0, .int .i64 0, .int .i64 0, .string ⟨#[]⟩, .slice none 0 0, .slice none 0 0] 28))
                clear hg4 hP
                go_wp2_with fail
                go_ret
                exact ⟨rfl, HG4.out⟩
            · have hst' : (st.kind != 12) = true := by simpa using hst
              clear hst e1 e2 e3 e4 hak hfk
              generalize st.kind = stk at *
              go_wp2_with fail
              go_ret
              exact ⟨rfl, HG3.out⟩
          · have hy1' : ((yn : Int) != 1) = true := by simp; omega
            clear hy1 hkn hyn hk0
            go_wp2_with fail
            go_ret
            exact ⟨rfl, HG3.out⟩
        · have hk1' : ((kn : Int) != 1) = true := by simp; omega
          clear hk1 hkn hyn
          go_wp2_with fail
          go_ret
          exact ⟨rfl, HG3.out⟩

end Go.Proofs.YtkbplcfehllbjaaGreatDoor
