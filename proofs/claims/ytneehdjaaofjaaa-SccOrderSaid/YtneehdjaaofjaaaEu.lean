/- scc: Order. -/
import Derived.Test.YtneehdjaaofjaaaEt
import Derived.Test.YtneehdjaaofjaaaE9
import Derived.Test.YtneehdjaaofjaaaE7
import Derived.Deep.DeepCutAuto
import Derived.Deep.LoopGhost
import Derived.Handy
namespace Go.Proofs.Ytneehdjaaofjaaa
open Go.RowKit
theorem Groups15 (n : Int) (A : Option Addr) (c0 : Nat) (E : List Edg) (w : World) (hE : EdsAt w A E) (hEl : E.length ≤ 1000) :
    Calls Try.prog 12 #[.int .i64 n, .slice A E.length c0] w fun e w' => ∃ G, IsGr (szE n) (prs (szE n) E) G ∧ RetInts w none G e w' := by
  have HC := Lib.hid (newGraph_any n A c0 E w hE hEl)
  have hN := szE_le n
  generalize szE n = N at *
  clear hE hEl
  go_enter Try.func12, Try.ntmps12
  go_wp2_with fail
  refine HC.out.mono ?_
  rintro e w1 ⟨o, G, rfl, _, hG, hK, hS, hg1⟩
  have HGR := Lib.hid (groups_any (prs N E) N (some ⟨o, 0, none⟩) G w1 hG hK hS hN)
  have HG1 := Lib.hid hg1
  clear hG hK hS hg1 HC
  go_wp2_with fail
  refine HGR.out.mono ?_
  rintro e w2 ⟨Q, hQ, A2, n2, c2, rfl, hI, hg2, hA⟩
  have HE := Lib.hid (And.intro hQ (And.intro hI (And.intro (grownBy_trans HG1.out hg2) hA)))
  clear hQ hI hg2 hA HGR
  go_wp2_with fail
  go_ret
  obtain ⟨h1, h2, h3, h4⟩ := HE.out
  exact ⟨Q, h1, A2, n2, c2, rfl, h2, h3, fun ad e => (h4 ad e).imp (fun h => Nat.le_trans HG1.out.size h) id⟩
set_option maxRecDepth 100000 in
set_option maxHeartbeats 8000000 in
theorem Order15 (n : Int) (A : Option Addr) (c0 : Nat) (E : List Edg) (w : World) (hE : EdsAt w A E) (hEl : E.length ≤ 1000) :
    Calls Try.prog 14 #[.int .i64 n, .slice A E.length c0] w fun e w' => ∃ G O, IsGr (szE n) (prs (szE n) E) G ∧ IsOr (prs (szE n) E) G O ∧ RetInts w none O e w' := by
  have HC := Lib.hid (newGraph_any n A c0 E w hE hEl)
  have hN := szE_le n
  generalize szE n = N at *
  clear hE hEl
  go_enter Try.func14, Try.ntmps14
  go_wp2_with fail
  refine HC.out.mono ?_
  rintro e w1 ⟨o, G, rfl, _, hG, hK, hS, hg1⟩
  have HGR := Lib.hid (groups_any (prs N E) N (some ⟨o, 0, none⟩) G w1 hG hK hS hN)
  have HGA := Lib.hid hG
  have HK := Lib.hid hK
  have HS := Lib.hid hS
  have HG1 := Lib.hid hg1
  clear hG hK hS hg1 HC
  go_wp2_with fail
  refine HGR.out.mono ?_
  rintro e w2 ⟨Q, hQ, A2, n2, c2, rfl, hI, hg2, hA⟩
  have e2 : n2 = N := by rw [hI.len, hQ.1]
  rw [e2] at hI ⊢
  clear e2
  have HQ := Lib.hid hQ
  have HI := Lib.hid hI
  have HG2 := Lib.hid (grownBy_trans HG1.out hg2)
  have HSH := Lib.hid (shrunk_any _ N N c2 (some ⟨o, 0, none⟩) A2 G Q w2 (HGA.out.keep hg2) HK.out HS.out hN hI (fun x hx => by
    obtain ⟨t, h1, h2⟩ := hQ.2 x hx
    exact ⟨t, h1, by have := h2.le; omega⟩))
  clear hQ hI hg2 hA HGR HGA HG1
  go_wp2_with fail
  refine HSH.out.mono ?_
  rintro e w3 ⟨o3, H, rfl, _, hGP, hKB, hSB, hg3⟩
  have HEN := Lib.hid (entries_any _ N N (some ⟨o3, 0, none⟩) H w3 (hGP.mono (fun x _ _ => by simp)) hKB hSB hN)
  have HGP := Lib.hid hGP
  have HSB := Lib.hid hSB
  have HW3 := Lib.hid (grownBy_trans HG2.out hg3).size
  have HKB := Lib.hid (show GrK (BtR (prs N E) Q) N H from hKB)
  have HG3 := Lib.hid (grownBy_trans HG2.out hg3)
  have HI3 := Lib.hid (HI.out.keep hg3)
  clear hGP hKB hSB hg3 HSH HK HS HG2 HI
  go_wp2_with fail
  refine HEN.out.mono ?_
  rintro e w4 ⟨b, Z, rfl, hb, hZ, hZl, hZe, hg4⟩
  have HGP4 := Lib.hid ((HGP.out.mono (U := fun k => k < w4.heap.size ∧ k ≠ b) (fun x _ hl => ⟨Nat.lt_of_lt_of_le hl hg4.size, by omega⟩)).keep (fun k _ hl => hg4.block k hl (by simp)))
  have HI4 := Lib.hid (HI3.out.keep hg4)
  have HZ := Lib.hid hZ
  have HZE := Lib.hid hZe
  have HG4 := Lib.hid (grownBy_trans HG3.out hg4)
  have HBB := Lib.hid (show ∀ ad, A2 = some ad → Q ≠ [] → ad.block < w3.heap.size from fun ad e hne => by
    subst e
    exact HI3.out.lt hne)
  have HB := Lib.hid hb
  have hbm := (hZ.lt b rfl).2
  clear hZ hZe hg4 hb HEN HGP HI3 HG3
  go_wp2_with fail
  obtain ⟨m, hm⟩ : ∃ m, m = w4.heap.size := ⟨_, rfl⟩
  have HM0 := Lib.hid (OrM.first (N := N) HZ.out)
  have HSW := Lib.hid HG4.out.size
  rw [← hm] at HM0 hbm HSW HGP4 ⊢
  clear HZ hm
  have hZb : ∀ j, j < N → cntP' H N j ≤ 400000000000 → True := fun _ _ _ => trivial
  clear hZb
  go_loopw [30] (fun i wr => ∃ (q : Nat) (v : Value) (L : List Int), q ≤ N ∧ i = .int .i64 q ∧ L.length ≤ q ∧ Hid (OrM w4 m b N v (.slice none 0 0) L Z [] wr) ∧ Hid (RdI q Q [] (fun v => cntP' H N v) L)) (fun i _ => N - (intOf i).toNat)
  case atStart => exact ⟨0, _, [], Nat.zero_le _, rfl, Nat.le_refl _, HM0, RdI.zero _ _ _⟩
  case round =>
    obtain ⟨q, v, L, hq, rfl, hLq, HM, HR⟩ := hrel
    by_cases hlt : q < N
    · obtain ⟨t, hqt, htop⟩ := HQ.out.2 q hlt
      have hIr := HM.out.ints HI4.out HBB.out HB.out hbm
      obtain ⟨ad, rfl, hz9⟩ := hIr.at_ (show q < Q.length from (List.getElem?_eq_some_iff.1 hqt).1)
      have d1 := hIr.cellOf hqt
      have d2 := HM.out.zo.cell hZl.symm (HZE.out q hlt)
      obtain ⟨z, hz⟩ : ∃ z, z = cntP' H N q := ⟨_, rfl⟩
      rw [← hz] at d2
      have HQT := Lib.hid hqt
      have HZQ := Lib.hid hz
      clear hIr hz9 hqt htop hz
      by_cases hqe : q = t
      · subst hqe
        have t1 : ((q : Int) == (q : Int)) = true := beq_self_eq_true _
        by_cases hz0 : z = 0
        · subst hz0
          have HAD := Lib.hid (add_any m v L q wr HM.out.hp (by omega))
          go_wp2_with fail
          refine HAD.out.mono ?_
          rintro e w6 ⟨v6, L6, rfl, hp6, hh6, ht6⟩
          have HM6 := Lib.hid (HM.out.hpT hbm hh6 ht6)
          have HR6 := Lib.hid (HR.out.more HQT.out HZQ.out.symm hp6)
          have hl6 : L6.length ≤ q + 1 := by rw [hp6.length_eq, List.length_append, List.length_singleton]; omega
          clear hp6 hh6 ht6 HAD
          go_wp2_with fail
          go_roundw
          case rel => exact ⟨q + 1, v6, L6, by omega, by go_num, hl6, HM6, HR6⟩
          case measure => simp [intOf]; omega
        · have HR6 := Lib.hid (HR.out.skip (fun h => hz0 (by rw [HZQ.out]; exact h.2)))
          have t2 : ((z : Int) == 0) = false := by rw [beq_eq_false_iff_ne]; omega
          go_wp2_with fail
          go_roundw
          case rel => exact ⟨q + 1, v, L, by omega, by go_num, by omega, HM, HR6⟩
          case measure => simp [intOf]; omega
      · have HR6 := Lib.hid (HR.out.skip (fun h => hqe (by have h1 := h.1; rw [HQT.out] at h1; injection h1 with h1; omega)))
        have t1 : ((q : Int) == (t : Int)) = false := by rw [beq_eq_false_iff_ne]; omega
        go_wp2_with fail
        go_roundw
        case rel => exact ⟨q + 1, v, L, by omega, by go_num, by omega, HM, HR6⟩
        case measure => simp [intOf]; omega
    · have hqN : q = N := by omega
      subst hqN
      have HM1 := Lib.hid HM.out.newU
      have HO1 := Lib.hid (show OrI (prs q E) q Q H [] L Z from ⟨hZl, fun j hj => by rw [HZE.out j hj, remN_nil H j q (by rw [HKB.out.len]; exact Nat.le_refl _)], by simp, fun d hd => (by cases hd), HR.out.congr (fun v hv => (remN_nil H v q (by rw [HKB.out.len]; exact Nat.le_refl _)).symm), fun d hd => (by cases hd), fun k x hx => by simp [nI] at hx⟩)
      clear HM HR HM0 HZE hq hLq
      go_wp2_with fail
      go_loopg [12] q (fun g u wr => ∃ (D : List Nat) (B Z : List Int) (v : Value), g + D.length = q ∧ Hid (OrI (prs q E) q Q H D B Z) ∧ Hid (OrM w4 m b q v u B Z (nI D) wr))
      case atStart => exact ⟨[], L, Z, v, by simp, HO1, HM1⟩
      case round =>
        clear HO1 HM1
        obtain ⟨D, B, Z, v, hg, HO, HM⟩ := hrel
        obtain ⟨A5, c5, rfl⟩ := HM.out.hp.at_.own.slice
        have d0 := HM.out.hp.at_.cell
        have hBl := HO.out.rd.len
        by_cases hB0 : B = []
        · subst hB0
          go_wp2_with (go_at_call 25; refine (silen_any _ _ _ _).mono ?_; rintro e w' ⟨rfl, rfl⟩)
          go_ret
          have hws : w.heap.size ≤ m := HSW.out
          have hw3 := HW3.out
          have hbb := HB.out
          refine ⟨Q, nI D, HQ.out, HO.out.done HQ.out HKB.out, ?_⟩
          have hgw : w.grownBy wr none := ⟨HM.out.os.trans HG4.out.os, HM.out.tape.trans HG4.out.tape, HM.out.output.trans HG4.out.output, by have := HM.out.size; omega, fun k hk hn => (HM.out.keep k (by omega) (by omega)).trans (HG4.out.block k hk hn)⟩
          exact RetInts.own (n := (nI D).length) (HM.out.uo.up (base := w.heap.size) (fun g hg => by have := (HM.out.ub g hg).1; omega)) (Nat.le_refl _) hgw
        · have hB1 : 0 < B.length := List.length_pos_iff.2 hB0
          have HTK := Lib.hid (take_any m _ B wr HM.out.hp hB1 (by omega))
          have t0 : decide ((B.length : Int) > 0) = true := decide_eq_true (by omega)
          clear hB0
          go_wp2_with (go_at_call 25; refine (silen_any _ _ _ _).mono ?_; rintro e w' ⟨rfl, rfl⟩)
          refine HTK.out.mono ?_
          rintro e w6 ⟨x, v6, B6, rfl, hp6, hle6, hh6, ht6⟩
          obtain ⟨i, rfl, hiN, hQi, hiD, hi0⟩ := (HO.out.rd.mem x).1 (hp6.mem_iff.1 (by simp))
          have hr := List.getElem?_eq_getElem (show i < H.length by rw [HKB.out.len]; exact hiN)
          generalize H[i]'_ = row at hr
          obtain ⟨_, _, hdn, hdN, hok, hord⟩ := HO.out.take HQ.out HKB.out hp6 hle6 hr
          have HM6 := Lib.hid (HM.out.hpT hbm hh6 ht6)
          have HOK := Lib.hid hok
          have HORD := Lib.hid hord
          have HDN := Lib.hid hdn
          have HDL := Lib.hid hdN
          have HR := Lib.hid hr
          have hrl := HSB.out i row hr
          have hdl : D.length < q := by
            have := nodup_len hdn hdN
            rw [List.length_append, List.length_singleton] at this
            omega
          have HDL6 := Lib.hid (show (nI D).length ≤ 20000 by rw [nI_len]; omega)
          obtain ⟨ad, B2, d2, hade, hado, hadc, hadI, hadB⟩ := HGP4.out i row hr
          injection hade with hade
          subst hade
          have HADC := Lib.hid hadc
          have HADO := Lib.hid hado
          have HADI := Lib.hid hadI
          have HADB := Lib.hid hadB
          clear hp6 hle6 hh6 ht6 hdn hdN hok hord hr hadc hado hadI hadB HTK t0 hi0 hQi d0
          go_wp2_with (at_builtin; go_must (refine app_one2 rfl (.tmp 58) (.tmp 60) rfl 0 u12 (nI D) rfl (HM6.out.uo.gr (gr_alloc (grownBy_refl w6 none) _)) w6.heap.size (i : Int) (0, 0) rfl (heap_alloc_new w6 (.cells #[.int .i64 (i : Int)] 3)) (by have := HDL6.out; omega) (Nat.zero_le _) ?_; intro v7 w7 ho7 hg7 hb7; have HM7 := Lib.hid ((HM6.out.gr (gr_alloc (grownBy_refl w6 none) _)).app hbm ho7.out hg7.out hb7.out); clear ho7 hg7 hb7; refine Hid.out ?_))
          refine Lib.hid ?_
          have HRW := Lib.hid (fun (W : World) (v u : Value) (B Z T : List Int) (h : OrM w4 m b q v u B Z T W) => (show IntsAt W B2 row.length d2 row from HADI.out.to fun hl bd e => h.keep _ (HADB.out bd e hl).1 (HADB.out bd e hl).2))
          have c1' : w7.cell? ((⟨o3, 0, none⟩ : Addr).add i) = some (.slice B2 row.length d2) := (World.cell?_of_block (by rw [add_block]; exact HM7.out.keep _ HADO.out.1 HADO.out.2)).trans HADC.out
          have c1 : w7.cell? ⟨o3, i, none⟩ = some (.slice B2 row.length d2) := by rw [add_none, Nat.zero_add] at c1'; exact c1'
          clear c1'
          have HG := Lib.hid hg
          clear HADI HADB hg HM HM6 HO
          go_wp2_with fail
          go_loopw [67] (fun t wr => ∃ (k : Nat) (B1 Z1 : List Int) (v1 : Value), k ≤ row.length ∧ t = .int .i64 k ∧ Hid (OrK (prs q E) q Q H (D ++ [i]) row k B1 Z1) ∧ Hid (OrM w4 m b q v1 v7 B1 Z1 (nI D ++ [(i : Int)]) wr)) (fun t _ => row.length - (intOf t).toNat)
          case atStart => exact ⟨0, B6, Z, v6, Nat.zero_le _, rfl, HOK, HM7⟩
          case round =>
            clear HOK HM7 c1
            obtain ⟨k, B1, Z1, v1, hk, rfl, HOK, HM⟩ := hrel
            by_cases hlt2 : k < row.length
            · have hx := List.getElem?_eq_getElem hlt2
              have hIr := HRW.out _ _ _ _ _ _ HM.out
              obtain ⟨bd, rfl, hx9⟩ := hIr.at_ hlt2
              obtain ⟨j, hxj, hj, hBT⟩ := HKB.out.row i row HR.out _ (List.getElem_mem hlt2)
              rw [hxj] at hx
              have hQj : Q[j]? = some (j : Int) := by
                obtain ⟨_, y, hxy, _, h2, _⟩ := hBT
                obtain ⟨t, h3, h4⟩ := HQ.out.2 y (prs_mem.1 hxy).2.1
                rw [h2] at h3
                injection h3 with h3
                obtain rfl : j = t := by omega
                obtain ⟨s, h5, h6⟩ := HQ.out.2 j hj
                rw [h5, h6.same h4.own]
              have d1 := hIr.cellOf hx
              obtain ⟨z, hz⟩ : ∃ z, z + 1 = remN H (D ++ [i]) j q + (row.drop k).count (j : Int) := by
                rw [drop_count hx, if_pos rfl]
                exact ⟨_, rfl⟩
              have hzb : z ≤ 400100000000 := by
                have h1 := remN_le HSB.out (D ++ [i]) j q
                have h2 : (row.drop k).count (j : Int) ≤ (row.drop k).length := List.count_le_length
                rw [List.length_drop] at h2
                have h3 : q * 20000000 ≤ 20000 * 20000000 := Nat.mul_le_mul_right _ hN
                omega
              have hzj := HOK.out.z j hj
              rw [← hz] at hzj
              have d2 := HM.out.zo.cell HOK.out.zl.symm hzj
              have d3 := HM.out.zo.fr HOK.out.zl.symm j
              have HZS := Lib.hid (HM.out.setZ hbm HOK.out.zl j (z : Int))
              have HNX := Lib.hid (fun (B' : List Int) (hB : B'.Perm (if z = 0 then B1 ++ [(j : Int)] else B1)) => HOK.out.next hx hj hQj hz hB)
              have w1 : IntKind.i64.wrap (((z + 1 : Nat) : Int) - 1) = (z : Int) := by rw [IntKind.wrap_i64]; omega
              have hB1l := HOK.out.rd.len
              clear hx hIr hx9 hxj hBT hQj hzj hz
              by_cases hz0 : z = 0
              · subst hz0
                have HAD := Lib.hid (add_any m v1 B1 j _ HZS.out.hp (by omega))
                go_wp2_with fail
                refine (show Calls Try.prog 24 #[.pointer (some ⟨m, 0, none⟩), .int .i64 (j : Int)] (wr.setCell ⟨b, j, none⟩ (.int .i64 0)) _ from HAD.out).mono ?_
                rintro e w8 ⟨v8, B8, rfl, hp8, hh8, ht8⟩
                have HM8 := Lib.hid (HZS.out.hpT hbm hh8 ht8)
                have HN8 := Lib.hid (HNX.out B8 (by rw [if_pos trivial]; exact hp8))
                clear hp8 hh8 ht8 HAD d2
                go_wp2_with fail
                go_roundw
                case rel => exact ⟨k + 1, B8, _, v8, by omega, by go_num, HN8, HM8⟩
                case measure => simp [intOf]; omega
              · have t2 : ((z : Int) == 0) = false := by rw [beq_eq_false_iff_ne]; omega
                have HN2 := Lib.hid (HNX.out B1 (by rw [if_neg hz0]))
                go_wp2_with fail
                exact ⟨⟨k + 1, B1, Z1.set j (z : Int), v1, by omega, by go_num, HN2, HZS⟩, by simp [intOf]; omega⟩
            · obtain rfl : k = row.length := by omega
              have HOI := Lib.hid (HOK.out.end (Nat.le_refl _) HDN.out HDL.out HORD.out)
              go_wp2_with fail
              go_roundg (gk - 1)
              case measure => have := HG.out; omega
              case rel => exact ⟨D ++ [i], B1, Z1, v1, by rw [List.length_append, List.length_singleton]; have := HG.out; omega, HOI, Lib.hid (by rw [nI_app]; exact HM.out)⟩

end Go.Proofs.Ytneehdjaaofjaaa
