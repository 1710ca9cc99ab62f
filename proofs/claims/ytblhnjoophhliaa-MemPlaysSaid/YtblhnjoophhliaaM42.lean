/- The document's memory: Load, where it answers nothing, or a part. -/
import Derived.Test.YtblhnjoophhliaaM41
namespace Go.Proofs.Ytblhnjoophhliaa
open Go.RowKit
set_option maxRecDepth 100000 in
set_option maxHeartbeats 4000000 in
theorem rLoad_acc {S : Nat → Prop} {ad : Option Addr} {rs : List RB} (cap : Nat) (p : Val) (n : Int) (w : World) (h : RefAt S w ad rs) (ha : accI (rsB rs) p n ≠ 0) :
    Calls Try.prog 18 #[.slice ad rs.length cap, valV p, .int .i64 n] w fun e w' => e = .returned (.tuple #[valV val0, .int .i64 (accI (rsB rs) p n)]) ∧ w.grownBy w' none := by
  have HR := Lib.hid h
  have HACC := Lib.hid (fun W (hW : RefAt S W ad rs) => access_any cap p n W hW)
  generalize accI (rsB rs) p n = a at *
  have e0 : (a != 0) = true := by simpa using ha
  obtain ⟨pn, pb, pf⟩ := p
  unfold valV valC at *
  dsimp only at *
  have HV0 := Lib.hid (P2.new w pn pb pf 0 0 0)
  clear h ha
  go_enter Try.func18, Try.ntmps18
  go_wp2_with fail
  refine (HACC.out _ (HR.out.gr HV0.out.gr)).mono ?_
  rintro e w1 ⟨rfl, g1⟩
  have HV1 := Lib.hid (HV0.out.grown g1)
  clear g1
  obtain ⟨y0, y1, y2, z0, z1, z2⟩ := P2.r1 HV1.out
  go_wp2_with fail
  exact bodyPost_ret (v := .tuple #[.agg #[.int .i64 0, .int .i64 0, .int .i64 0], .int .i64 a]) (by simp [results, Try.results18, go_sem, y0, y1, y2]) rfl ⟨rfl, by have := HV1.out.gr; repeat (first | with_reducible exact grownBy_refl _ _ | with_reducible assumption | with_reducible refine World.grownBy.gr_drew ?_ | with_reducible refine World.grownBy.gr_set ?_ (by simp) _ | with_reducible refine gr_alloc ?_ _)⟩
set_option maxRecDepth 100000 in
set_option maxHeartbeats 4000000 in
theorem rLoad_mix {S : Nat → Prop} {ad : Option Addr} {rs : List RB} (cap : Nat) (p : Val) (c k o : Nat) (w : World) (h : RefAt S w ad rs) (hw : widB c = true) (h1 : 1 ≤ c) (hc : cutB (rsB rs) p c = some k) {x : RB} (hx : rs[k]? = some x) (ho : p.n = o) {b : Byt} (ht : x.bytes[o]? = some b) (hn : cntN (segL x.bytes o c) ≠ c) (hm : 0 < cntN (segL x.bytes o c) ∨ b.k ≠ 2) :
    Calls Try.prog 18 #[.slice ad rs.length cap, valV p, .int .i64 c] w fun e w' => e = .returned (.tuple #[valV val0, .int .i64 9]) ∧ w.grownBy w' none := by
  have HT := Lib.hid ht
  have HN := Lib.hid hn
  have HM := Lib.hid hm
  clear ht hn hm
  have HR := Lib.hid h
  have HACC := Lib.hid (fun W (hW : RefAt S W ad rs) => access_any cap p c W hW)
  rw [acc_zero hw hc] at HACC
  obtain ⟨x', hx', hpb, o', hpo, hol⟩ := cutB_in hc
  obtain rfl : x = x' := by rw [hx] at hx'; injection hx'
  have hc8 : c ≤ 8 := by have := of_decide_eq_true (show decide _ = true from hw); omega
  have HX := Lib.hid hx
  have hk := (List.getElem?_eq_some_iff.1 hx).1
  have hsm := h.small
  have hxe := h.each x (List.mem_of_getElem? hx)
  have HXE := Lib.hid hxe
  have hxl := hxe.2.2.1
  have hxc := hxe.2.2.2.2.2
  obtain ⟨g, rfl, hgw, _⟩ := h.cells hx
  have hne : x.bytes ≠ [] := fun e => by rw [e] at hol; simp at hol; omega
  obtain ⟨gx, hxa⟩ : ∃ gx, x.ad = some ⟨gx, 0, none⟩ := by
    rcases hxe.1 with e | ⟨gx, e, _⟩
    · exact absurd e hne
    · exact ⟨gx, e⟩
  have HXA := Lib.hid hxa
  obtain ⟨pn, pb, pf⟩ := p
  unfold valV valC at *
  dsimp only at *
  obtain rfl : o = o' := by rw [hpo] at ho; omega
  subst hpb hpo
  have HV0 := Lib.hid (P2.new w o ((k : Int) + 1) pf 0 0 0)
  have HC1 := Lib.hid h1
  have hs0 : (0 : Int) ≤ (o : Int) := by omega
  have hs1 : (o : Int) + c ≤ x.cap := by omega
  have hs2 : IntKind.i64.wrap ((o : Int) + c) = (o : Int) + c := by rw [IntKind.wrap_i64]; omega
  have hs3 : IntKind.i64.wrap (k : Int) = (k : Int) := by rw [IntKind.wrap_i64]; omega
  have hs4 : ((o : Int) + c).toNat = o + c := by omega
  have hs5 : (0 : Int) ≤ (o : Int) + c := by omega
  have hs6 : ¬ x.cap = o := by omega
  have HC := Lib.hid hc
  clear h hw hc hx hx' hxe hxa hne ho h1 hxl hxc
  go_enter Try.func18, Try.ntmps18
  go_wp2_with fail
  refine (HACC.out _ (HR.out.gr HV0.out.gr)).mono ?_
  rintro e w1 ⟨rfl, g1⟩
  have HV1 := Lib.hid (HV0.out.grown g1)
  clear g1
  obtain ⟨x0, x1, x2, f0, f1, f2, hz⟩ := P2.r0 HV1.out
  obtain ⟨g', e', hg', c0, c1, c2⟩ := (HR.out.gr HV1.out.gr).cells HX.out
  obtain rfl : g = g' := by injection e' with e'; injection e'
  rw [HXA.out] at c1
  have hgk : (k : Int) < rs.length := by omega
  go_wp2_with fail
  go_quiet (fail)
  go_wp2_with fail
  have HW := Lib.hid (show P2 w ⟨o, (k : Int) + 1, pf⟩ ⟨0, 0, 0⟩ (w1.drewN nq) from HV1.out.drewN nq)
  have HB := Lib.hid (show RdAt (w1.drewN nq) (some ⟨gx, 0, none⟩) x.bytes from (HXA.out ▸ HXE.out.1 : RdAt w (some ⟨gx, 0, none⟩) x.bytes).gr HW.out.gr)
  clear x0 x1 x2 f0 f1 f2 hz c0 c1 c2 hs0 hs1 hs2 hs3 hs4 hs5 hs6 hgk
  generalize w1.drewN nq = w2 at *
  go_loop [10, 11] (fun n i => ∃ j : Nat, j ≤ c ∧ i = .int .i64 j ∧ n = .int .i64 (cntN (segL x.bytes o j))) (fun _ i => c - (intOf i).toNat)
  case atStart => exact ⟨0, Nat.zero_le _, rfl, rfl⟩
  case round =>
    obtain ⟨j, hj, rfl, rfl⟩ := hrel
    by_cases hlt : j < c
    · obtain ⟨y, hy, d0, d1, d2, d3, d4⟩ := HB.out.seg (o := o) (k := j) (by omega)
      have HS := Lib.hid (show cntN (segL x.bytes o (j + 1)) = cntN (segL x.bytes o j) + if y.k = 1 then 1 else 0 from by rw [seg_succ hy, cntN_snoc])
      have hcl : cntN (segL x.bytes o j) ≤ 8 := by have := cntN_le (segL x.bytes o j); rw [seg_len (by omega)] at this; omega
      generalize cntN (segL x.bytes o j) = q at *
      clear hy
      by_cases hy1 : y.k = 1
      · rw [hy1] at d0
        have HS := Lib.hid (show cntN (segL x.bytes o (j + 1)) = q + 1 from by rw [HS.out, if_pos hy1])
        clear hy1
        go_wp2_with fail
        go_round
        case rel => exact ⟨j + 1, by omega, by go_num, by rw [HS.out]; go_num⟩
        case measure => simp [intOf]; omega
      · have e1 : (y.k == 1) = false := by simpa using hy1
        have HS := Lib.hid (show cntN (segL x.bytes o (j + 1)) = q from by rw [HS.out, if_neg hy1]; rfl)
        clear hy1
        go_wp2_with fail
        go_round
        case rel => exact ⟨j + 1, by omega, by go_num, by rw [HS.out]⟩
        case measure => simp [intOf]; omega
    · have e : j = c := by omega
      subst e
      clear hlt
      obtain ⟨y0, y1, y2, z0, z1, z2⟩ := P2.r1 HW.out
      have hz := (P2.r0 HW.out).2.2.2.2.2.2
      have hc1 := HC1.out
      obtain ⟨y, hy, d0, d1, d2, d3, d4⟩ := HB.out.seg (o := o) (k := 0) (by omega)
      obtain rfl : b = y := by have := HT.out; rw [Nat.add_zero] at hy; rw [hy] at this; injection this with this; exact this.symm
      have hN := HN.out
      have hM := HM.out
      generalize cntN (segL x.bytes o j) = q at *
      have e0 : ((q : Int) == (j : Int)) = false := by simp; omega
      have e1 : (q == j) = false := by simpa using hN
      rcases Nat.eq_zero_or_pos q with hq | hq
      · have e2 : decide ((0 : Int) < (q : Int)) = false := decide_eq_false (by omega)
        have e3 : decide (0 < q) = false := decide_eq_false (by omega)
        have e4 : (b.k != 2) = true := by simp; omega
        have hj0 : (0 : Int) < (j : Int) := by omega
        clear hN hM hq d1 d2 d3 d4 hc1 hy hj
        rw [Nat.zero_mul, Nat.add_zero] at d0
        go_wp2_with fail
        exact bodyPost_ret (v := .tuple #[.agg #[.int .i64 0, .int .i64 0, .int .i64 0], .int .i64 9]) (by simp [results, Try.results18, go_sem, y0, y1, y2]) rfl ⟨rfl, by have := HW.out.gr; repeat (first | with_reducible exact grownBy_refl _ _ | with_reducible assumption | with_reducible refine World.grownBy.gr_drew ?_ | with_reducible refine World.grownBy.gr_set ?_ (by simp) _ | with_reducible refine gr_alloc ?_ _)⟩
      · have e2 : decide ((0 : Int) < (q : Int)) = true := decide_eq_true (by omega)
        have e3 : decide (0 < q) = true := decide_eq_true hq
        clear hN hM hq d0 d1 d2 d3 d4 hc1 hy hj
        go_wp2_with fail
        exact bodyPost_ret (v := .tuple #[.agg #[.int .i64 0, .int .i64 0, .int .i64 0], .int .i64 9]) (by simp [results, Try.results18, go_sem, y0, y1, y2]) rfl ⟨rfl, by have := HW.out.gr; repeat (first | with_reducible exact grownBy_refl _ _ | with_reducible assumption | with_reducible refine World.grownBy.gr_drew ?_ | with_reducible refine World.grownBy.gr_set ?_ (by simp) _ | with_reducible refine gr_alloc ?_ _)⟩

end Go.Proofs.Ytblhnjoophhliaa
