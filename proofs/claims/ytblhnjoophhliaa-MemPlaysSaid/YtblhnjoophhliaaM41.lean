/- The document's memory: Load. -/
import Derived.Test.YtblhnjoophhliaaM37
import Derived.Deep.QuietTactic
import Derived.BigQuiet
namespace Go.Proofs.Ytblhnjoophhliaa
open Go.RowKit
theorem RdAt.seg {W : World} {g o k : Nat} {M : List Byt} (h : RdAt W (some ⟨g, 0, none⟩) M) (hk : o + k < M.length) :
    ∃ x, M[o + k]? = some x ∧ W.cell? ⟨g, o * 5 + k * 5, none⟩ = some (.int .i64 x.k) ∧ W.cell? ⟨g, o * 5 + k * 5 + 1, none⟩ = some (.int .u8 x.v) ∧ W.cell? ⟨g, o * 5 + k * 5 + 2, none⟩ = some (.int .i64 x.p.n) ∧
      W.cell? ⟨g, o * 5 + k * 5 + 3, none⟩ = some (.int .i64 x.p.b) ∧ W.cell? ⟨g, o * 5 + k * 5 + 4, none⟩ = some (.int .i64 x.p.f) := by
  obtain ⟨g', x, e, hx, c0, c1, c2, c3, c4⟩ := h.cells hk
  obtain rfl : g = g' := by injection e with e; injection e
  rw [show (o + k) * 5 = o * 5 + k * 5 by omega] at c0 c1 c2 c3 c4
  exact ⟨x, hx, c0, c1, c2, c3, c4⟩
theorem wrap3 (a b : Int) : wrap64 (wrap64 a + wrap64 b) = wrap64 (a + b) := by unfold wrap64; omega
theorem top_step {M : List Byt} {o i m : Nat} {s : Int} {y : Byt} (hm : m < i + 1) (hy : M[o + m]? = some y) : topN (segL M (o + m) (i + 1 - m)) s = wrap64 (topN (segL M (o + (m + 1)) (i - m)) s * 256 + y.v) := by
  have e : segL M (o + m) (i + 1 - m) = y :: segL M (o + (m + 1)) (i - m) := by
    unfold segL
    obtain ⟨hl, he⟩ := List.getElem?_eq_some_iff.1 hy
    rw [show i + 1 - m = (i - m) + 1 by omega, List.drop_eq_getElem_cons hl, List.take_succ_cons, he]
    rfl
  rw [e]
  rfl
theorem P2.drewN {w W : World} {p q : Val} (h : P2 w p q W) (n : Nat) : P2 w p q (W.drewN n) := ⟨h.b0, h.b1, gr_drewN h.gr n⟩
set_option maxRecDepth 100000 in
set_option maxHeartbeats 4000000 in
theorem rLoad_num {S : Nat → Prop} {ad : Option Addr} {rs : List RB} (cap : Nat) (p : Val) (c k o : Nat) (w : World) (h : RefAt S w ad rs) (hw : widB c = true) (h1 : 1 ≤ c) (hc : cutB (rsB rs) p c = some k) {x : RB} (hx : rs[k]? = some x) (ho : p.n = o) {t : Byt} (ht : x.bytes[o + (c - 1)]? = some t) (hn : cntN (segL x.bytes o c) = c) :
    Calls Try.prog 18 #[.slice ad rs.length cap, valV p, .int .i64 c] w fun e w' => e = .returned (.tuple #[valV ⟨topN (segL x.bytes o c) (sgn0 (segL x.bytes o c) t), 0, 0⟩, .int .i64 0]) ∧ w.grownBy w' none := by
  have HT := Lib.hid ht
  have HN := Lib.hid hn
  clear ht hn
  have HR := Lib.hid h
  have HACC := Lib.hid (fun W (hW : RefAt S W ad rs) => access_any cap p c W hW)
  rw [acc_zero hw hc] at HACC
  obtain ⟨x', hx', hpb, o', hpo, hol⟩ := cutB_in hc
  obtain rfl : x = x' := by rw [hx] at hx'; injection hx'
  have hc8 : c ≤ 8 := by have := of_decide_eq_true (show decide _ = true from hw); omega
  have HX := Lib.hid hx
  have hk := (List.getElem?_eq_some_iff.1 hx).1
  have hsm := h.small
  have hxe := h.each x (List.mem_of_getElem? hx)
  have HXE := Lib.hid hxe
  have hxl := hxe.2.2.1
  have hxc := hxe.2.2.2.2.2
  obtain ⟨g, rfl, hgw, _⟩ := h.cells hx
  have hne : x.bytes ≠ [] := fun e => by rw [e] at hol; simp at hol; omega
  obtain ⟨gx, hxa⟩ : ∃ gx, x.ad = some ⟨gx, 0, none⟩ := by
    rcases hxe.1 with e | ⟨gx, e, _⟩
    · exact absurd e hne
    · exact ⟨gx, e⟩
  have HXA := Lib.hid hxa
  obtain ⟨pn, pb, pf⟩ := p
  unfold valV valC at *
  dsimp only at *
  obtain rfl : o = o' := by rw [hpo] at ho; omega
  subst hpb hpo
  have HV0 := Lib.hid (P2.new w o ((k : Int) + 1) pf 0 0 0)
  have HC1 := Lib.hid h1
  have hs0 : (0 : Int) ≤ (o : Int) := by omega
  have hs1 : (o : Int) + c ≤ x.cap := by omega
  have hs2 : IntKind.i64.wrap ((o : Int) + c) = (o : Int) + c := by rw [IntKind.wrap_i64]; omega
  have hs3 : IntKind.i64.wrap (k : Int) = (k : Int) := by rw [IntKind.wrap_i64]; omega
  have hs4 : ((o : Int) + c).toNat = o + c := by omega
  have hs5 : (0 : Int) ≤ (o : Int) + c := by omega
  have hs6 : ¬ x.cap = o := by omega
  have HC := Lib.hid hc
  clear h hw hc hx hx' hxe hxa hne ho h1 hxl hxc
  go_enter Try.func18, Try.ntmps18
  go_wp2_with fail
  refine (HACC.out _ (HR.out.gr HV0.out.gr)).mono ?_
  rintro e w1 ⟨rfl, g1⟩
  have HV1 := Lib.hid (HV0.out.grown g1)
  clear g1
  obtain ⟨x0, x1, x2, f0, f1, f2, hz⟩ := P2.r0 HV1.out
  obtain ⟨g', e', hg', c0, c1, c2⟩ := (HR.out.gr HV1.out.gr).cells HX.out
  obtain rfl : g = g' := by injection e' with e'; injection e'
  rw [HXA.out] at c1
  have hgk : (k : Int) < rs.length := by omega
  go_wp2_with fail
  go_quiet (fail)
  go_wp2_with fail
  have HW := Lib.hid (show P2 w ⟨o, (k : Int) + 1, pf⟩ ⟨0, 0, 0⟩ (w1.drewN nq) from HV1.out.drewN nq)
  have HB := Lib.hid (show RdAt (w1.drewN nq) (some ⟨gx, 0, none⟩) x.bytes from (HXA.out ▸ HXE.out.1 : RdAt w (some ⟨gx, 0, none⟩) x.bytes).gr HW.out.gr)
  clear x0 x1 x2 f0 f1 f2 hz c0 c1 c2 hs0 hs1 hs2 hs3 hs4 hs5 hs6 hgk
  generalize w1.drewN nq = w2 at *
  go_loop [10, 11] (fun n i => ∃ j : Nat, j ≤ c ∧ i = .int .i64 j ∧ n = .int .i64 (cntN (segL x.bytes o j))) (fun _ i => c - (intOf i).toNat)
  case atStart => exact ⟨0, Nat.zero_le _, rfl, rfl⟩
  case round =>
    obtain ⟨j, hj, rfl, rfl⟩ := hrel
    by_cases hlt : j < c
    · obtain ⟨y, hy, d0, d1, d2, d3, d4⟩ := HB.out.seg (o := o) (k := j) (by omega)
      have HS := Lib.hid (show cntN (segL x.bytes o (j + 1)) = cntN (segL x.bytes o j) + if y.k = 1 then 1 else 0 from by rw [seg_succ hy, cntN_snoc])
      have hcl : cntN (segL x.bytes o j) ≤ 8 := by have := cntN_le (segL x.bytes o j); rw [seg_len (by omega)] at this; omega
      generalize cntN (segL x.bytes o j) = q at *
      clear hy
      by_cases hy1 : y.k = 1
      · rw [hy1] at d0
        have HS := Lib.hid (show cntN (segL x.bytes o (j + 1)) = q + 1 from by rw [HS.out, if_pos hy1])
        clear hy1
        go_wp2_with fail
        go_round
        case rel => exact ⟨j + 1, by omega, by go_num, by rw [HS.out]; go_num⟩
        case measure => simp [intOf]; omega
      · have e1 : (y.k == 1) = false := by simpa using hy1
        have HS := Lib.hid (show cntN (segL x.bytes o (j + 1)) = q from by rw [HS.out, if_neg hy1]; rfl)
        clear hy1
        go_wp2_with fail
        go_round
        case rel => exact ⟨j + 1, by omega, by go_num, by rw [HS.out]⟩
        case measure => simp [intOf]; omega
    · have e : j = c := by omega
      subst e
      clear hlt
      rw [HN.out]
      obtain ⟨y0, y1, y2, z0, z1, z2⟩ := P2.r1 HW.out
      have hz := (P2.r0 HW.out).2.2.2.2.2.2
      have hc1 := HC1.out
      obtain ⟨i', rfl⟩ : ∃ i', j = i' + 1 := ⟨j - 1, by omega⟩
      obtain ⟨y, hy, d0, d1, d2, d3, d4⟩ := HB.out.seg (o := o) (k := i') (by omega)
      obtain rfl : t = y := by have := HT.out; rw [Nat.add_sub_cancel, hy] at this; injection this with this; exact this.symm
      have hsl : (segL x.bytes o (i' + 1)).length = i' + 1 := seg_len (by omega)
      rcases Nat.eq_zero_or_pos i' with hi0 | hi1
      · have HSG := Lib.hid (show sgn0 (segL x.bytes o (i' + 1)) t = 0 from by unfold sgn0; rw [if_neg (by omega)])
        have e1 : decide ((1 : Int) < (i' : Int) + 1) = false := decide_eq_false (by omega)
        clear d0 d1 d2 d3 d4 hc1 hsl hi0 hj
        go_wp2_with fail
        clear y0 y1 y2 z0 z1 z2 hz
        go_loop [12, 13] (fun n i => (∃ m : Nat, m < i' + 1 ∧ i = .int .i64 m ∧ n = .int .i64 (topN (segL x.bytes (o + (m + 1)) (i' - m)) (sgn0 (segL x.bytes o (i' + 1)) t))) ∨ (i = .int .i64 (-1) ∧ n = .int .i64 (topN (segL x.bytes o (i' + 1)) (sgn0 (segL x.bytes o (i' + 1)) t)))) (fun _ i => (intOf i + 1).toNat)
        case atStart => exact .inl ⟨i', by omega, by go_num, by rw [HSG.out, Nat.sub_self]; rfl⟩
        case round =>
          rcases hrel with ⟨m, hm, rfl, rfl⟩ | ⟨rfl, rfl⟩
          · obtain ⟨y, hy, d0, d1, d2, d3, d4⟩ := HB.out.seg (o := o) (k := m) (by omega)
            have HTS := Lib.hid (top_step (s := sgn0 (segL x.bytes o (i' + 1)) t) (show m < i' + 1 from hm) hy)
            clear d0 d2 d3 d4 hy
            generalize topN (segL x.bytes (o + (m + 1)) (i' - m)) (sgn0 (segL x.bytes o (i' + 1)) t) = q at *
            go_wp2_with fail
            go_round
            case rel =>
              rcases m with _ | m
              · exact .inr ⟨rfl, congrArg (Value.int .i64) ((wrap3 _ _).trans HTS.out.symm)⟩
              · exact .inl ⟨m, by omega, by go_num, by have e := HTS.out; rw [Nat.add_sub_add_right] at e; rw [wrap3, e]⟩
            case measure => first | (simp [intOf]; done) | (simp [intOf]; omega)
          · generalize hq : topN (segL x.bytes o (i' + 1)) (sgn0 (segL x.bytes o (i' + 1)) t) = q
            have HQ := Lib.hid hq
            clear hq
            obtain ⟨y0, y1, y2, z0, z1, z2⟩ := P2.r1 HW.out
            have hz := (P2.r0 HW.out).2.2.2.2.2.2
            go_wp2_with fail
            exact bodyPost_ret (v := .tuple #[.agg #[.int .i64 q, .int .i64 0, .int .i64 0], .int .i64 0]) (by simp [results, Try.results18, go_sem, y0, y1, y2]) rfl ⟨by rw [HQ.out], by have := HW.out.gr; repeat (first | with_reducible exact grownBy_refl _ _ | with_reducible assumption | with_reducible refine World.grownBy.gr_drew ?_ | with_reducible refine World.grownBy.gr_set ?_ (by simp) _ | with_reducible refine gr_alloc ?_ _)⟩
      · have e1 : decide ((1 : Int) < (i' : Int) + 1) = true := decide_eq_true (by omega)
        by_cases hv : 128 ≤ t.v
        · have HSG := Lib.hid (show sgn0 (segL x.bytes o (i' + 1)) t = -1 from by unfold sgn0; rw [if_pos ⟨by omega, hv⟩])
          clear d0 d2 d3 d4 hc1 hsl hi1 hj
          go_wp2_with fail
          clear y0 y1 y2 z0 z1 z2 hz
          go_loop [12, 13] (fun n i => (∃ m : Nat, m < i' + 1 ∧ i = .int .i64 m ∧ n = .int .i64 (topN (segL x.bytes (o + (m + 1)) (i' - m)) (sgn0 (segL x.bytes o (i' + 1)) t))) ∨ (i = .int .i64 (-1) ∧ n = .int .i64 (topN (segL x.bytes o (i' + 1)) (sgn0 (segL x.bytes o (i' + 1)) t)))) (fun _ i => (intOf i + 1).toNat)
          case atStart => exact .inl ⟨i', by omega, by go_num, by rw [HSG.out, Nat.sub_self]; rfl⟩
          case round =>
            rcases hrel with ⟨m, hm, rfl, rfl⟩ | ⟨rfl, rfl⟩
            · obtain ⟨y, hy, d0, d1, d2, d3, d4⟩ := HB.out.seg (o := o) (k := m) (by omega)
              have HTS := Lib.hid (top_step (s := sgn0 (segL x.bytes o (i' + 1)) t) (show m < i' + 1 from hm) hy)
              clear d0 d2 d3 d4 hy
              generalize topN (segL x.bytes (o + (m + 1)) (i' - m)) (sgn0 (segL x.bytes o (i' + 1)) t) = q at *
              go_wp2_with fail
              go_round
              case rel =>
                rcases m with _ | m
                · exact .inr ⟨rfl, congrArg (Value.int .i64) ((wrap3 _ _).trans HTS.out.symm)⟩
                · exact .inl ⟨m, by omega, by go_num, by have e := HTS.out; rw [Nat.add_sub_add_right] at e; rw [wrap3, e]⟩
              case measure => first | (simp [intOf]; done) | (simp [intOf]; omega)
            · generalize hq : topN (segL x.bytes o (i' + 1)) (sgn0 (segL x.bytes o (i' + 1)) t) = q
              have HQ := Lib.hid hq
              clear hq
              obtain ⟨y0, y1, y2, z0, z1, z2⟩ := P2.r1 HW.out
              have hz := (P2.r0 HW.out).2.2.2.2.2.2
              go_wp2_with fail
              exact bodyPost_ret (v := .tuple #[.agg #[.int .i64 q, .int .i64 0, .int .i64 0], .int .i64 0]) (by simp [results, Try.results18, go_sem, y0, y1, y2]) rfl ⟨by rw [HQ.out], by have := HW.out.gr; repeat (first | with_reducible exact grownBy_refl _ _ | with_reducible assumption | with_reducible refine World.grownBy.gr_drew ?_ | with_reducible refine World.grownBy.gr_set ?_ (by simp) _ | with_reducible refine gr_alloc ?_ _)⟩
        · have HSG := Lib.hid (show sgn0 (segL x.bytes o (i' + 1)) t = 0 from by unfold sgn0; rw [if_neg (fun h => hv h.2)])
          have e2 : decide ((128 : Int) ≤ t.v) = false := decide_eq_false hv
          clear d0 d2 d3 d4 hc1 hsl hi1 hj hv
          go_wp2_with fail
          clear y0 y1 y2 z0 z1 z2 hz
          go_loop [12, 13] (fun n i => (∃ m : Nat, m < i' + 1 ∧ i = .int .i64 m ∧ n = .int .i64 (topN (segL x.bytes (o + (m + 1)) (i' - m)) (sgn0 (segL x.bytes o (i' + 1)) t))) ∨ (i = .int .i64 (-1) ∧ n = .int .i64 (topN (segL x.bytes o (i' + 1)) (sgn0 (segL x.bytes o (i' + 1)) t)))) (fun _ i => (intOf i + 1).toNat)
          case atStart => exact .inl ⟨i', by omega, by go_num, by rw [HSG.out, Nat.sub_self]; rfl⟩
          case round =>
            rcases hrel with ⟨m, hm, rfl, rfl⟩ | ⟨rfl, rfl⟩
            · obtain ⟨y, hy, d0, d1, d2, d3, d4⟩ := HB.out.seg (o := o) (k := m) (by omega)
              have HTS := Lib.hid (top_step (s := sgn0 (segL x.bytes o (i' + 1)) t) (show m < i' + 1 from hm) hy)
              clear d0 d2 d3 d4 hy
              generalize topN (segL x.bytes (o + (m + 1)) (i' - m)) (sgn0 (segL x.bytes o (i' + 1)) t) = q at *
              go_wp2_with fail
              go_round
              case rel =>
                rcases m with _ | m
                · exact .inr ⟨rfl, congrArg (Value.int .i64) ((wrap3 _ _).trans HTS.out.symm)⟩
                · exact .inl ⟨m, by omega, by go_num, by have e := HTS.out; rw [Nat.add_sub_add_right] at e; rw [wrap3, e]⟩
              case measure => first | (simp [intOf]; done) | (simp [intOf]; omega)
            · generalize hq : topN (segL x.bytes o (i' + 1)) (sgn0 (segL x.bytes o (i' + 1)) t) = q
              have HQ := Lib.hid hq
              clear hq
              obtain ⟨y0, y1, y2, z0, z1, z2⟩ := P2.r1 HW.out
              have hz := (P2.r0 HW.out).2.2.2.2.2.2
              go_wp2_with fail
              exact bodyPost_ret (v := .tuple #[.agg #[.int .i64 q, .int .i64 0, .int .i64 0], .int .i64 0]) (by simp [results, Try.results18, go_sem, y0, y1, y2]) rfl ⟨by rw [HQ.out], by have := HW.out.gr; repeat (first | with_reducible exact grownBy_refl _ _ | with_reducible assumption | with_reducible refine World.grownBy.gr_drew ?_ | with_reducible refine World.grownBy.gr_set ?_ (by simp) _ | with_reducible refine gr_alloc ?_ _)⟩

end Go.Proofs.Ytblhnjoophhliaa
