/- MemMoves, walked. -/
import Derived.Test.YtblhnjoophhliaaM21
import Derived.Test.YtblhnjoophhliaaM14
import Derived.Deep.DeepCutAuto
namespace Go.Proofs.Ytblhnjoophhliaa
open Go.RowKit
/-- Numbers that came in. -/
def U8At (W : World) (oa : Option Addr) (n : Nat) : Prop := ∀ i, i < n → ∃ bl off z, oa = some ⟨bl, off, none⟩ ∧ bl < W.heap.size ∧ 0 ≤ z ∧ z < 256 ∧ W.cell? ⟨bl, off + i, none⟩ = some (.int .u8 z)
theorem U8At.gr {W W' : World} {oa : Option Addr} {n : Nat} (h : U8At W oa n) (g : W.grownBy W' none) : U8At W' oa n := fun i hi => by
  obtain ⟨bl, off, z, h0, h1, h2, h3, h4⟩ := h i hi
  exact ⟨bl, off, z, h0, Nat.lt_of_lt_of_le h1 g.size, h2, h3, (World.cell?_of_block (a := ⟨bl, off + i, none⟩) (g.block bl h1 (by simp))).trans h4⟩
theorem mo0 (g : Nat) : allocP [] g 0 64 true = ([(g, bk (nums 0 64))], 1, 0) := rfl
theorem mo1 {g : Nat} {M : List Byt} {i : Nat} {z : Int} (hM : M.length = 64) (hi : i < 64) : storeP [(g, bk M)] ⟨i, 1, 0⟩ 1 ⟨z, 0, 0⟩ = ([(g, bk (splice M i (numL z 1)))], 0) :=
  store_one (b := bk M) (n := 1) rfl rfl rfl (by show _ ≤ M.length; omega)
theorem mo2 {g : Nat} {M : List Byt} {a b k : Nat} (hM : M.length = 64) (h : a + k ≤ 64 ∧ b + k ≤ 64) : copyP [(g, bk M)] ⟨a, 1, 0⟩ ⟨b, 1, 0⟩ k = ([(g, bk (splice M a (segL M b k)))], 0) := by
  unfold copyP
  rw [if_neg (by rw [show lenB k = true from decide_eq_true (by omega)]; simp), cut_one, cut_one, if_pos ⟨rfl, wit_nat (by show _ ≤ M.length; omega)⟩, if_pos ⟨rfl, wit_nat (by show _ ≤ M.length; omega)⟩]
  simp only [List.getElem?_cons_zero, Int.toNat_natCast]
  rfl
theorem mo3 {g : Nat} {M : List Byt} {a b k : Nat} (hM : M.length = 64) (h : ¬ (a + k ≤ 64 ∧ b + k ≤ 64)) : copyP [(g, bk M)] ⟨a, 1, 0⟩ ⟨b, 1, 0⟩ k = ([(g, bk M)], 9) := by
  have e : cutI [(g, bk M)] ⟨a, 1, 0⟩ k = none ∨ cutI [(g, bk M)] ⟨b, 1, 0⟩ k = none := by
    by_cases h1 : a + k ≤ 64
    · right
      rw [cut_one, if_neg (by rw [show witB (bk M).bytes.length b k = false from wit_not (by show ¬ _ ≤ M.length; omega)]; simp)]
    · left
      rw [cut_one, if_neg (by rw [show witB (bk M).bytes.length a k = false from wit_not (by show ¬ _ ≤ M.length; omega)]; simp)]
  unfold copyP
  split
  · rfl
  · rcases e with e | e
    · rw [e]
    · rw [e]
      rcases cutI [(g, bk M)] ⟨a, 1, 0⟩ k with _ | j <;> rfl
set_option maxRecDepth 100000 in
set_option maxHeartbeats 16000000 in
theorem moves_walk (oa : Option Addr) (n cap : Nat) (xt xf kk : Int) (ht0 : 0 ≤ xt) (ht1 : xt < 256) (hf0 : 0 ≤ xf) (hf1 : xf < 256) (hk0 : 0 ≤ kk) (hk1 : kk < 256) (w : World) (hA : U8At w oa n) :
    Calls Try.prog 6 #[.slice oa n cap, .int .u8 xt, .int .u8 xf, .int .u8 kk] w fun e w' => e = .returned (.bool true) ∧ w.grownBy w' none := by
  obtain ⟨a, ha⟩ : ∃ a : Nat, xt % 65 = a := ⟨(xt % 65).toNat, by omega⟩
  obtain ⟨b, hb⟩ : ∃ b : Nat, xf % 65 = b := ⟨(xf % 65).toNat, by omega⟩
  obtain ⟨k, hk⟩ : ∃ k : Nat, kk % 66 = k := ⟨(kk % 66).toNat, by omega⟩
  have ha1 : a ≤ 64 := by omega
  have hb1 : b ≤ 64 := by omega
  have hk2 : k ≤ 65 := by omega
  have HA := Lib.hid ha
  have HB := Lib.hid hb
  have HK := Lib.hid hk
  have HU := Lib.hid hA
  clear ha hb hk hA
  go_enter Try.func6, Try.ntmps6
  go_wp2_with fail
  refine (shown_any _).mono ?_
  rintro e w1 ⟨rfl, hg⟩
  have HG1 := Lib.hid hg
  clear hg
  go_wp2_with fail
  refine (New_any w1).mono ?_
  rintro e w2 ⟨rfl, rfl⟩
  have HS2 := Lib.hid (St.new w w1 HG1.out)
  go_wp2_with fail
  refine (alloc_st 0 64 true HS2.out).mono ?_
  rintro e w3 ⟨rfl, hs, hkk⟩
  rw [mo0] at hs ⊢
  dsimp only at hs ⊢
  have HS3 := Lib.hid hs
  clear hs hkk HS2 HG1
  generalize (w1.alloc (.cells #[.slice none 0 0] 73)).heap.size = g at *
  generalize w1.heap.size = m at *
  go_wp2_with fail
  go_loopw [13] (fun i wr => ∃ (j : Nat) (M : List Byt), j ≤ n ∧ j ≤ 64 ∧ i = .int .i64 j ∧ M.length = 64 ∧ St w wr m [(g, bk M)]) (fun i _ => 64 - (intOf i).toNat)
  case atStart => exact ⟨0, _, Nat.zero_le _, by omega, rfl, nums_len _ _, HS3.out⟩
  case round =>
    obtain ⟨j, M, hj, hj64, rfl, hM, hS⟩ := hrel
    have HM := Lib.hid hM
    have HS := Lib.hid hS
    clear hM hS
    by_cases hlt : j < n ∧ j < 64
    · obtain ⟨hl1, hl2⟩ := hlt
      obtain ⟨bl, off, z, rfl, hbl, hz0, hz1, hc⟩ := (HU.out.gr HS.out.gr) j hl1
      go_upto_region 9 with fail
      go_cut [51] (fun s51 wx => s51 = .bool false ∧ St w wx m [(g, bk (splice M j (numL z 1)))])
      case first =>
        have HST := Lib.hid (fun (W : World) (hW : St w W m [(g, bk M)]) => (show Calls Try.prog 19 #[.pointer (some ⟨m, 0, none⟩), .agg #[.int .i64 j, .int .i64 1, .int .i64 0], .int .i64 1, .agg #[.int .i64 z, .int .i64 0, .int .i64 0]] W (fun e w' => e = .returned (.int .i64 0) ∧ St w w' m [(g, bk (splice M j (numL z 1)))] ∧ Keep W w' [(g, bk M)]) from by
          have h := store_st ⟨j, 1, 0⟩ ⟨z, 0, 0⟩ 1 hW
          rw [mo1 HM.out hl2] at h
          exact h))
        have HY := (show St w wr.drew m [(g, bk M)] from HS.out.gr' (grownBy_refl wr none).gr_drew)
        have hcd : wr.drew.cell? ⟨bl, off + j, none⟩ = some (.int .u8 z) := hc
        have hbd : bl < wr.drew.heap.size := hbl
        have hwz : IntKind.i64.wrap z = z := IntWalk.i64_in _ (by omega)
        go_region_with (first
          | (go_at_call 31; refine (at_any _ _).mono ?_; rintro e w' ⟨rfl, hg⟩; have hcx := (World.cell?_of_block (a := ⟨bl, off + j, none⟩) (hg.block bl hbd (by simp))).trans hcd; have hbx := St.gr' (by assumption) hg; clear hg)
          | (go_at_call 19; ((with_reducible refine (HST.out _ (by assumption)).mono ?_); rintro e w'' ⟨rfl, hs', hk⟩; clear hk)))
        all_goals
          clear hwz
          go_wp2_with fail
          go_meet
          exact ⟨rfl, by assumption⟩
      case rest =>
      obtain ⟨rfl, X5⟩ := hcut
      have HX5 := Lib.hid X5
      clear X5
      go_wp2_with fail
      go_roundw
      case rel => exact ⟨j + 1, _, by omega, by omega, by go_num, by rw [splice_len _ _ _ (by rw [numL_len, HM.out]; omega)]; exact HM.out, HX5.out⟩
      case measure => simp [intOf]; omega
    · have hjn : j ≤ 64 := hj64
      have HT : ∀ q : Nat, True := fun _ => trivial
      clear HT
      go_wp2_with fail
      all_goals
        refine (bytes_st 1 HS.out).mono ?_
        rintro e w5 ⟨l, rfl, hl, hs, hg⟩
        rw [bytes_one] at hl
        obtain ⟨q, rfl, hq⟩ : ∃ q, l = .slice (some ⟨q, 0, none⟩) 64 64 ∧ BytesAt w5 q M := by
          rcases hl with ⟨_, h0⟩ | ⟨q, h1, h2, h3⟩
          · have h0 : M = [] := h0
            have := HM.out; rw [h0] at this; cases this
          · exact ⟨q, by rw [h1]; show Value.slice _ M.length M.length = _; rw [HM.out], h3⟩
        have hqb : ∀ x ∈ [(g, bk M)], x.1 ≠ q := fun x hx e => by
          rw [List.mem_singleton.1 hx] at e
          obtain ⟨row, hm⟩ := HS.out.mem
          have h1 := (hm.bytes (g, bk M) (by simp)).1.lt
          rcases hl with ⟨h0, _⟩ | ⟨q', h1', h2, h3⟩
          · cases h0
          · injection h1' with h1'; injection h1' with h1'; injection h1' with h1'; dsimp only at e h1; omega
        have HS5 := Lib.hid hs
        have HW5 := Lib.hid hq
        have HQB := Lib.hid hqb
        clear hl hs hg hq hqb HS
        go_wp2_with fail
        rw [HA.out, HB.out, HK.out]
        refine (at_any _ _).mono ?_
        rintro e w6 ⟨rfl, hg⟩
        have HS6 := Lib.hid (HS5.out.gr' hg)
        have HW6 := Lib.hid (HW5.out.gr hg (by simp))
        clear hg HS5 HW5
        go_wp2_with fail
        refine (at_any _ _).mono ?_
        rintro e w7 ⟨rfl, hg⟩
        have HS7 := Lib.hid (HS6.out.gr' hg)
        have HW7 := Lib.hid (HW6.out.gr hg (by simp))
        clear hg HS6 HW6
        go_wp2_with fail
        refine (show Calls Try.prog 21 #[.pointer (some ⟨m, 0, none⟩), .agg #[.int .i64 (a : Int), .int .i64 1, .int .i64 0], .agg #[.int .i64 (b : Int), .int .i64 1, .int .i64 0], .int .i64 (k : Int)] w7 _ from copy_st ⟨a, 1, 0⟩ ⟨b, 1, 0⟩ k HS7.out).mono ?_
        rintro e w8 ⟨rfl, hs, hkp⟩
        have HW8 := Lib.hid (HW7.out.keep hkp HQB.out)
        clear hkp HS7 HW7 HQB
        by_cases hok : a + k ≤ 64 ∧ b + k ≤ 64
        · have f1 : decide ((a : Int) + k ≤ 64) = true := decide_eq_true (by omega)
          have f2 : decide ((b : Int) + k ≤ 64) = true := decide_eq_true (by omega)
          have hN : (splice M a (segL M b k)).length = 64 := by rw [splice_len _ _ _ (by rw [seg_len (by rw [HM.out]; omega), HM.out]; omega)]; exact HM.out
          rw [mo2 HM.out hok] at hs ⊢
          dsimp only at hs ⊢
          have HS8 := Lib.hid hs
          have HNL := Lib.hid hN
          clear hs hN
          go_wp2_with fail
          refine (bytes_st 1 HS8.out).mono ?_
          rintro e w9 ⟨l, rfl, hl, hs, hg⟩
          rw [bytes_one] at hl
          obtain ⟨q2, rfl, hq⟩ : ∃ q, l = .slice (some ⟨q, 0, none⟩) 64 64 ∧ BytesAt w9 q (splice M a (segL M b k)) := by
            rcases hl with ⟨_, h0⟩ | ⟨q, h1, h2, h3⟩
            · have h0 : splice M a (segL M b k) = [] := h0
              have := HNL.out; rw [h0] at this; cases this
            · exact ⟨q, by rw [h1]; show Value.slice _ (splice M a (segL M b k)).length (splice M a (segL M b k)).length = _; rw [HNL.out], h3⟩
          have HN := Lib.hid hq
          have HW := Lib.hid (HW8.out.gr hg (by simp))
          have HG9 := Lib.hid hs.gr
          clear hl hs hg hq HS8 HW8
          go_wp2_with fail
          go_loopw [20] (fun i wz => ∃ i' : Nat, i' ≤ 64 ∧ i = .int .i64 i' ∧ w9.grownBy wz none) (fun i _ => 64 - (intOf i).toNat)
          case atStart => exact ⟨0, by omega, rfl, grownBy_refl _ _⟩
          case round =>
            obtain ⟨i, hi, rfl, hgz⟩ := hrel
            have HGZ := Lib.hid hgz
            clear hgz
            by_cases hlt : i < 64
            · have hqz := (HW.out.gr HGZ.out (by simp)).lt
              have hq2z := (HN.out.gr HGZ.out (by simp)).lt
              obtain ⟨x, hx, c0, c1, c2, c3, c4, z0, z1, z2, z3, z4⟩ := (HW.out.gr HGZ.out (by simp)).open5 (o := 0) (k := i) (by rw [HM.out]; omega)
              obtain ⟨y, hy, d0, d1, d2, d3, d4, y0, y1, y2, y3, y4⟩ := (HN.out.gr HGZ.out (by simp)).open5 (o := 0) (k := i) (by rw [HNL.out]; omega)
              rw [Nat.zero_add] at hx hy
              simp only [Nat.zero_mul, Nat.zero_add] at c0 c1 c2 c3 c4 d0 d1 d2 d3 d4
              clear z0 z1 z2 z3 z4 y0 y1 y2 y3 y4
              obtain ⟨xk, xv, ⟨xn, xb, xf'⟩⟩ := x
              obtain ⟨yk, yv, ⟨yn, yb, yf⟩⟩ := y
              dsimp only at c0 c1 c2 c3 c4 d0 d1 d2 d3 d4
              have hcmp := fun W => neqByte W yk yv yn yb yf yk yv yn yb yf
              rw [decide_eq_true rfl] at hcmp
              by_cases hin : a ≤ i ∧ i < a + k
              · obtain ⟨hin1, hin2⟩ := hin
                obtain ⟨j2, hj2⟩ : ∃ j2 : Nat, j2 = b + (i - a) := ⟨_, rfl⟩
                have hjj : j2 < 64 := by omega
                obtain ⟨u, hu, e0', e1', e2', e3', e4', z0, z1, z2, z3, z4⟩ := (HW.out.gr HGZ.out (by simp)).open5 (o := 0) (k := j2) (by rw [HM.out]; omega)
                rw [Nat.zero_add] at hu
                simp only [Nat.zero_mul, Nat.zero_add] at e0' e1' e2' e3' e4'
                clear z0 z1 z2 z3 z4
                have huy : some u = some ⟨yk, yv, ⟨yn, yb, yf⟩⟩ := by
                  rw [← hu, ← hy, splice_in (by rw [HM.out]; omega) hin1 (by rw [seg_len (by rw [HM.out]; omega)]; exact hin2), seg_at (by omega), hj2]
                obtain rfl := Option.some.inj huy
                dsimp only at e0' e1' e2' e3' e4'
                clear hx hy hu huy
                have hidx : (b : Int) + i - a = (j2 : Int) := by omega
                clear hj2
                go_wp2_with fail
                go_quiet (fail)
                clear hcmp
                go_wp2_with fail
                go_roundw
                case rel => exact ⟨i + 1, by omega, by go_num, gr_drewN (gr_alloc HGZ.out _) _⟩
                case measure => simp [intOf]; omega
              · have hxy : (splice M a (segL M b k))[i]? = M[i]? := splice_out (by rw [HM.out, seg_len (by rw [HM.out]; omega)]; omega) (by rw [seg_len (by rw [HM.out]; omega)]; omega)
                rw [hxy] at hy
                have e := Option.some.inj (hx.symm.trans hy)
                simp only [Byt.mk.injEq, Val.mk.injEq] at e
                obtain ⟨rfl, rfl, rfl, rfl, rfl⟩ := e
                clear hx hy
                by_cases h1 : a ≤ i
                · have h2 : ¬ i < a + k := fun h => hin ⟨h1, h⟩
                  clear hin hxy
                  go_wp2_with fail
                  go_quiet (fail)
                  clear hcmp
                  go_wp2_with fail
                  go_roundw
                  case rel => exact ⟨i + 1, by omega, by go_num, gr_drewN (gr_alloc HGZ.out _) _⟩
                  case measure => simp [intOf]; omega
                · clear hin hxy
                  go_wp2_with fail
                  go_quiet (fail)
                  clear hcmp
                  go_wp2_with fail
                  go_roundw
                  case rel => exact ⟨i + 1, by omega, by go_num, gr_drewN (gr_alloc HGZ.out _) _⟩
                  case measure => simp [intOf]; omega
            · go_wp2_with fail
              go_ret
              exact ⟨rfl, grownBy_trans HG9.out HGZ.out⟩
        · have f1 : (decide ((a : Int) + k ≤ 64) = true ∧ decide ((b : Int) + k ≤ 64) = false) ∨ decide ((a : Int) + k ≤ 64) = false := by
            by_cases h1 : (a : Int) + k ≤ 64
            · exact .inl ⟨decide_eq_true h1, decide_eq_false (by omega)⟩
            · exact .inr (decide_eq_false h1)
          have hN : (M).length = 64 := HM.out
          rw [mo3 HM.out hok] at hs ⊢
          dsimp only at hs ⊢
          have HS8 := Lib.hid hs
          have HNL := Lib.hid hN
          clear hs hN
          go_wp2_with fail
          refine (bytes_st 1 HS8.out).mono ?_
          rintro e w9 ⟨l, rfl, hl, hs, hg⟩
          rw [bytes_one] at hl
          obtain ⟨q2, rfl, hq⟩ : ∃ q, l = .slice (some ⟨q, 0, none⟩) 64 64 ∧ BytesAt w9 q (M) := by
            rcases hl with ⟨_, h0⟩ | ⟨q, h1, h2, h3⟩
            · have h0 : M = [] := h0
              have := HNL.out; rw [h0] at this; cases this
            · exact ⟨q, by rw [h1]; show Value.slice _ (M).length (M).length = _; rw [HNL.out], h3⟩
          have HN := Lib.hid hq
          have HW := Lib.hid (HW8.out.gr hg (by simp))
          have HG9 := Lib.hid hs.gr
          clear hl hs hg hq HS8 HW8
          rcases f1 with ⟨f1, f2⟩ | f1
          all_goals
            go_wp2_with fail
            go_loopw [20] (fun i wz => ∃ i' : Nat, i' ≤ 64 ∧ i = .int .i64 i' ∧ w9.grownBy wz none) (fun i _ => 64 - (intOf i).toNat)
            case atStart => exact ⟨0, by omega, rfl, grownBy_refl _ _⟩
            case round =>
              obtain ⟨i, hi, rfl, hgz⟩ := hrel
              have HGZ := Lib.hid hgz
              clear hgz
              by_cases hlt : i < 64
              · have hqz := (HW.out.gr HGZ.out (by simp)).lt
                have hq2z := (HN.out.gr HGZ.out (by simp)).lt
                obtain ⟨x, hx, c0, c1, c2, c3, c4, z0, z1, z2, z3, z4⟩ := (HW.out.gr HGZ.out (by simp)).open5 (o := 0) (k := i) (by rw [HM.out]; omega)
                obtain ⟨y, hy, d0, d1, d2, d3, d4, y0, y1, y2, y3, y4⟩ := (HN.out.gr HGZ.out (by simp)).open5 (o := 0) (k := i) (by rw [HNL.out]; omega)
                rw [Nat.zero_add] at hx hy
                simp only [Nat.zero_mul, Nat.zero_add] at c0 c1 c2 c3 c4 d0 d1 d2 d3 d4
                clear z0 z1 z2 z3 z4 y0 y1 y2 y3 y4
                obtain ⟨xk, xv, ⟨xn, xb, xf'⟩⟩ := x
                obtain ⟨yk, yv, ⟨yn, yb, yf⟩⟩ := y
                dsimp only at c0 c1 c2 c3 c4 d0 d1 d2 d3 d4
                have hcmp := fun W => neqByte W yk yv yn yb yf yk yv yn yb yf
                rw [decide_eq_true rfl] at hcmp
                have e := Option.some.inj (hx.symm.trans hy)
                simp only [Byt.mk.injEq, Val.mk.injEq] at e
                obtain ⟨rfl, rfl, rfl, rfl, rfl⟩ := e
                clear hx hy
                go_wp2_with fail
                go_quiet (fail)
                clear hcmp
                go_wp2_with fail
                go_roundw
                case rel => exact ⟨i + 1, by omega, by go_num, gr_drewN (gr_alloc HGZ.out _) _⟩
                case measure => simp [intOf]; omega
              · go_wp2_with fail
                go_ret
                exact ⟨rfl, grownBy_trans HG9.out HGZ.out⟩

end Go.Proofs.Ytblhnjoophhliaa
