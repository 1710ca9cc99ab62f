/- The document's memory: Load of a part, and of a pointer. -/
import Derived.Test.YtblhnjoophhliaaM42
namespace Go.Proofs.Ytblhnjoophhliaa
open Go.RowKit
set_option maxRecDepth 100000 in
set_option maxHeartbeats 4000000 in
theorem rLoad_single {S : Nat → Prop} {ad : Option Addr} {rs : List RB} (cap : Nat) (p : Val) (c k o : Nat) (w : World) (h : RefAt S w ad rs) (hw : widB c = true) (h1 : 1 ≤ c) (hc : cutB (rsB rs) p c = some k) {x : RB} (hx : rs[k]? = some x) (ho : p.n = o) {b : Byt} (ht : x.bytes[o]? = some b) (hn : cntN (segL x.bytes o c) = 0) (hm : b.k = 2) (hc1 : c = 1) :
    Calls Try.prog 18 #[.slice ad rs.length cap, valV p, .int .i64 c] w fun e w' => e = .returned (.tuple #[valV b.p, .int .i64 0]) ∧ w.grownBy w' none := by
  have HT := Lib.hid ht
  have HN := Lib.hid hn
  have HM := Lib.hid hm
  have HC0 := Lib.hid hc1
  clear ht hn hm hc1
  have HR := Lib.hid h
  have HACC := Lib.hid (fun W (hW : RefAt S W ad rs) => access_any cap p c W hW)
  rw [acc_zero hw hc] at HACC
  obtain ⟨x', hx', hpb, o', hpo, hol⟩ := cutB_in hc
  obtain rfl : x = x' := by rw [hx] at hx'; injection hx'
  have hc8 : c ≤ 8 := by have := of_decide_eq_true (show decide _ = true from hw); omega
  have HX := Lib.hid hx
  have hk := (List.getElem?_eq_some_iff.1 hx).1
  have hsm := h.small
  have hxe := h.each x (List.mem_of_getElem? hx)
  have HXE := Lib.hid hxe
  have hxl := hxe.2.2.1
  have hxc := hxe.2.2.2.2.2
  obtain ⟨g, rfl, hgw, _⟩ := h.cells hx
  have hne : x.bytes ≠ [] := fun e => by rw [e] at hol; simp at hol; omega
  obtain ⟨gx, hxa⟩ : ∃ gx, x.ad = some ⟨gx, 0, none⟩ := by
    rcases hxe.1 with e | ⟨gx, e, _⟩
    · exact absurd e hne
    · exact ⟨gx, e⟩
  have HXA := Lib.hid hxa
  obtain ⟨pn, pb, pf⟩ := p
  unfold valV valC at *
  dsimp only at *
  obtain rfl : o = o' := by rw [hpo] at ho; omega
  subst hpb hpo
  have HV0 := Lib.hid (P2.new w o ((k : Int) + 1) pf 0 0 0)
  have HC1 := Lib.hid h1
  have hs0 : (0 : Int) ≤ (o : Int) := by omega
  have hs1 : (o : Int) + c ≤ x.cap := by omega
  have hs2 : IntKind.i64.wrap ((o : Int) + c) = (o : Int) + c := by rw [IntKind.wrap_i64]; omega
  have hs3 : IntKind.i64.wrap (k : Int) = (k : Int) := by rw [IntKind.wrap_i64]; omega
  have hs4 : ((o : Int) + c).toNat = o + c := by omega
  have hs5 : (0 : Int) ≤ (o : Int) + c := by omega
  have hs6 : ¬ x.cap = o := by omega
  have HC := Lib.hid hc
  clear h hw hc hx hx' hxe hxa hne ho h1 hxl hxc
  go_enter Try.func18, Try.ntmps18
  go_wp2_with fail
  refine (HACC.out _ (HR.out.gr HV0.out.gr)).mono ?_
  rintro e w1 ⟨rfl, g1⟩
  have HV1 := Lib.hid (HV0.out.grown g1)
  clear g1
  obtain ⟨x0, x1, x2, f0, f1, f2, hz⟩ := P2.r0 HV1.out
  obtain ⟨g', e', hg', c0, c1, c2⟩ := (HR.out.gr HV1.out.gr).cells HX.out
  obtain rfl : g = g' := by injection e' with e'; injection e'
  rw [HXA.out] at c1
  have hgk : (k : Int) < rs.length := by omega
  go_wp2_with fail
  go_quiet (fail)
  go_wp2_with fail
  have HW := Lib.hid (show P2 w ⟨o, (k : Int) + 1, pf⟩ ⟨0, 0, 0⟩ (w1.drewN nq) from HV1.out.drewN nq)
  have HB := Lib.hid (show RdAt (w1.drewN nq) (some ⟨gx, 0, none⟩) x.bytes from (HXA.out ▸ HXE.out.1 : RdAt w (some ⟨gx, 0, none⟩) x.bytes).gr HW.out.gr)
  clear x0 x1 x2 f0 f1 f2 hz c0 c1 c2 hs0 hs1 hs2 hs3 hs4 hs5 hs6 hgk
  generalize w1.drewN nq = w2 at *
  go_loop [10, 11] (fun n i => ∃ j : Nat, j ≤ c ∧ i = .int .i64 j ∧ n = .int .i64 (cntN (segL x.bytes o j))) (fun _ i => c - (intOf i).toNat)
  case atStart => exact ⟨0, Nat.zero_le _, rfl, rfl⟩
  case round =>
    obtain ⟨j, hj, rfl, rfl⟩ := hrel
    by_cases hlt : j < c
    · obtain ⟨y, hy, d0, d1, d2, d3, d4⟩ := HB.out.seg (o := o) (k := j) (by omega)
      have HS := Lib.hid (show cntN (segL x.bytes o (j + 1)) = cntN (segL x.bytes o j) + if y.k = 1 then 1 else 0 from by rw [seg_succ hy, cntN_snoc])
      have hcl : cntN (segL x.bytes o j) ≤ 8 := by have := cntN_le (segL x.bytes o j); rw [seg_len (by omega)] at this; omega
      generalize cntN (segL x.bytes o j) = q at *
      clear hy
      by_cases hy1 : y.k = 1
      · rw [hy1] at d0
        have HS := Lib.hid (show cntN (segL x.bytes o (j + 1)) = q + 1 from by rw [HS.out, if_pos hy1])
        clear hy1
        go_wp2_with fail
        go_round
        case rel => exact ⟨j + 1, by omega, by go_num, by rw [HS.out]; go_num⟩
        case measure => simp [intOf]; omega
      · have e1 : (y.k == 1) = false := by simpa using hy1
        have HS := Lib.hid (show cntN (segL x.bytes o (j + 1)) = q from by rw [HS.out, if_neg hy1]; rfl)
        clear hy1
        go_wp2_with fail
        go_round
        case rel => exact ⟨j + 1, by omega, by go_num, by rw [HS.out]⟩
        case measure => simp [intOf]; omega
    · have e : j = c := by omega
      subst e
      clear hlt
      obtain ⟨y0, y1, y2, z0, z1, z2⟩ := P2.r1 HW.out
      have hz := (P2.r0 HW.out).2.2.2.2.2.2
      have hc1 := HC0.out
      obtain ⟨y, hy, d0, d1, d2, d3, d4⟩ := HB.out.seg (o := o) (k := 0) (by omega)
      obtain rfl : b = y := by have := HT.out; rw [Nat.add_zero] at hy; rw [hy] at this; injection this with this; exact this.symm
      have hN := HN.out
      generalize cntN (segL x.bytes o j) = q at *
      have e0 : ((q : Int) == (j : Int)) = false := by simp; omega
      have e1 : (q == j) = false := by simp; omega
      have e2 : decide ((0 : Int) < (q : Int)) = false := decide_eq_false (by omega)
      have e3 : decide (0 < q) = false := decide_eq_false (by omega)
      have e5 : ((j : Int) == 1) = true := by simp; omega
      have hj0 : (0 : Int) < (j : Int) := by omega
      rw [HM.out] at d0
      clear hN d1 hc1 hy hj
      rw [Nat.zero_mul, Nat.add_zero] at d0 d2 d3 d4
      go_wp2_with fail
      exact bodyPost_ret (v := .tuple #[.agg #[.int .i64 b.p.n, .int .i64 b.p.b, .int .i64 b.p.f], .int .i64 0]) (by simp [results, Try.results18, go_sem, y0, y1, y2, hz]) rfl ⟨rfl, by have := HW.out.gr; repeat (first | with_reducible exact grownBy_refl _ _ | with_reducible assumption | with_reducible refine World.grownBy.gr_drew ?_ | with_reducible refine World.grownBy.gr_set ?_ (by simp) _ | with_reducible refine gr_alloc ?_ _)⟩
/-- Load's state behind the first part. -/
structure LdR (w W : World) (p : Val) (f : Nat) (b : Val) (gx : Nat) (M : List Byt) : Prop where
  p2 : P2 w p val0 W
  bx : VBox W f b
  rd : RdAt W (some ⟨gx, 0, none⟩) M
theorem LdR.drewN {w W : World} {p : Val} {f : Nat} {b : Val} {gx : Nat} {M : List Byt} (h : LdR w W p f b gx M) (n : Nat) : LdR w (W.drewN n) p f b gx M := ⟨h.p2.drewN n, h.bx, h.rd.gr (gr_drewN (grownBy_refl W none) n)⟩
/-- Is a byte the part that it should be? -/
def isPrt (b : Byt) (i : Nat) (x : Byt) : Prop := x.k = 2 ∧ x.p.f = (i : Int) + 1 ∧ x.p.n = b.p.n ∧ x.p.b = b.p.b
instance (b : Byt) (i : Nat) (x : Byt) : Decidable (isPrt b i x) := by unfold isPrt; infer_instance
set_option maxRecDepth 100000 in
set_option maxHeartbeats 4000000 in
theorem rLoad_parts {S : Nat → Prop} {ad : Option Addr} {rs : List RB} (cap : Nat) (p : Val) (c k o : Nat) (w : World) (h : RefAt S w ad rs) (hw : widB c = true) (h1 : 1 ≤ c) (hc : cutB (rsB rs) p c = some k) {x : RB} (hx : rs[k]? = some x) (ho : p.n = o) {b : Byt} (ht : x.bytes[o]? = some b) (hn : cntN (segL x.bytes o c) = 0) (hm : b.k = 2) (hc1 : c ≠ 1) (hok : OkM x.bytes) :
    Calls Try.prog 18 #[.slice ad rs.length cap, valV p, .int .i64 c] w fun e w' => e = .returned (.tuple #[valV (decR b (segL x.bytes o c)).1, .int .i64 (decR b (segL x.bytes o c)).2]) ∧ w.grownBy w' none := by
  have HT := Lib.hid ht
  have HN := Lib.hid hn
  have HM := Lib.hid hm
  have HC0 := Lib.hid hc1
  have HOK := Lib.hid hok
  clear ht hn hm hc1 hok
  have HR := Lib.hid h
  have HACC := Lib.hid (fun W (hW : RefAt S W ad rs) => access_any cap p c W hW)
  rw [acc_zero hw hc] at HACC
  obtain ⟨x', hx', hpb, o', hpo, hol⟩ := cutB_in hc
  obtain rfl : x = x' := by rw [hx] at hx'; injection hx'
  have hc8 : c ≤ 8 := by have := of_decide_eq_true (show decide _ = true from hw); omega
  have HX := Lib.hid hx
  have hk := (List.getElem?_eq_some_iff.1 hx).1
  have hsm := h.small
  have hxe := h.each x (List.mem_of_getElem? hx)
  have HXE := Lib.hid hxe
  have hxl := hxe.2.2.1
  have hxc := hxe.2.2.2.2.2
  obtain ⟨g, rfl, hgw, _⟩ := h.cells hx
  have hne : x.bytes ≠ [] := fun e => by rw [e] at hol; simp at hol; omega
  obtain ⟨gx, hxa⟩ : ∃ gx, x.ad = some ⟨gx, 0, none⟩ := by
    rcases hxe.1 with e | ⟨gx, e, _⟩
    · exact absurd e hne
    · exact ⟨gx, e⟩
  have HXA := Lib.hid hxa
  obtain ⟨pn, pb, pf⟩ := p
  unfold valV valC at *
  dsimp only at *
  obtain rfl : o = o' := by rw [hpo] at ho; omega
  subst hpb hpo
  have HV0 := Lib.hid (P2.new w o ((k : Int) + 1) pf 0 0 0)
  have HC1 := Lib.hid h1
  have hs0 : (0 : Int) ≤ (o : Int) := by omega
  have hs1 : (o : Int) + c ≤ x.cap := by omega
  have hs2 : IntKind.i64.wrap ((o : Int) + c) = (o : Int) + c := by rw [IntKind.wrap_i64]; omega
  have hs3 : IntKind.i64.wrap (k : Int) = (k : Int) := by rw [IntKind.wrap_i64]; omega
  have hs4 : ((o : Int) + c).toNat = o + c := by omega
  have hs5 : (0 : Int) ≤ (o : Int) + c := by omega
  have hs6 : ¬ x.cap = o := by omega
  have HC := Lib.hid hc
  clear h hw hc hx hx' hxe hxa hne ho h1 hxl hxc
  go_enter Try.func18, Try.ntmps18
  go_wp2_with fail
  refine (HACC.out _ (HR.out.gr HV0.out.gr)).mono ?_
  rintro e w1 ⟨rfl, g1⟩
  have HV1 := Lib.hid (HV0.out.grown g1)
  clear g1
  obtain ⟨x0, x1, x2, f0, f1, f2, hz⟩ := P2.r0 HV1.out
  obtain ⟨g', e', hg', c0, c1, c2⟩ := (HR.out.gr HV1.out.gr).cells HX.out
  obtain rfl : g = g' := by injection e' with e'; injection e'
  rw [HXA.out] at c1
  have hgk : (k : Int) < rs.length := by omega
  go_wp2_with fail
  go_quiet (fail)
  go_wp2_with fail
  have HW := Lib.hid (show P2 w ⟨o, (k : Int) + 1, pf⟩ ⟨0, 0, 0⟩ (w1.drewN nq) from HV1.out.drewN nq)
  have HB := Lib.hid (show RdAt (w1.drewN nq) (some ⟨gx, 0, none⟩) x.bytes from (HXA.out ▸ HXE.out.1 : RdAt w (some ⟨gx, 0, none⟩) x.bytes).gr HW.out.gr)
  clear x0 x1 x2 f0 f1 f2 hz c0 c1 c2 hs0 hs1 hs2 hs3 hs4 hs5 hs6 hgk
  generalize w1.drewN nq = w2 at *
  go_loop [10, 11] (fun n i => ∃ j : Nat, j ≤ c ∧ i = .int .i64 j ∧ n = .int .i64 (cntN (segL x.bytes o j))) (fun _ i => c - (intOf i).toNat)
  case atStart => exact ⟨0, Nat.zero_le _, rfl, rfl⟩
  case round =>
    obtain ⟨j, hj, rfl, rfl⟩ := hrel
    by_cases hlt : j < c
    · obtain ⟨y, hy, d0, d1, d2, d3, d4⟩ := HB.out.seg (o := o) (k := j) (by omega)
      have HS := Lib.hid (show cntN (segL x.bytes o (j + 1)) = cntN (segL x.bytes o j) + if y.k = 1 then 1 else 0 from by rw [seg_succ hy, cntN_snoc])
      have hcl : cntN (segL x.bytes o j) ≤ 8 := by have := cntN_le (segL x.bytes o j); rw [seg_len (by omega)] at this; omega
      generalize cntN (segL x.bytes o j) = q at *
      clear hy
      by_cases hy1 : y.k = 1
      · rw [hy1] at d0
        have HS := Lib.hid (show cntN (segL x.bytes o (j + 1)) = q + 1 from by rw [HS.out, if_pos hy1])
        clear hy1
        go_wp2_with fail
        go_round
        case rel => exact ⟨j + 1, by omega, by go_num, by rw [HS.out]; go_num⟩
        case measure => simp [intOf]; omega
      · have e1 : (y.k == 1) = false := by simpa using hy1
        have HS := Lib.hid (show cntN (segL x.bytes o (j + 1)) = q from by rw [HS.out, if_neg hy1]; rfl)
        clear hy1
        go_wp2_with fail
        go_round
        case rel => exact ⟨j + 1, by omega, by go_num, by rw [HS.out]⟩
        case measure => simp [intOf]; omega
    · have e : j = c := by omega
      subst e
      clear hlt
      obtain ⟨y0, y1, y2, z0, z1, z2⟩ := P2.r1 HW.out
      have hz := (P2.r0 HW.out).2.2.2.2.2.2
      have hc1 := HC0.out
      have hC1 := HC1.out
      obtain ⟨y, hy, d0, d1, d2, d3, d4⟩ := HB.out.seg (o := o) (k := 0) (by omega)
      obtain rfl : b = y := by have := HT.out; rw [Nat.add_zero] at hy; rw [hy] at this; injection this with this; exact this.symm
      have hN := HN.out
      generalize cntN (segL x.bytes o j) = q at *
      have e0 : ((q : Int) == (j : Int)) = false := by simp; omega
      have e1 : (q == j) = false := by simp; omega
      have e2 : decide ((0 : Int) < (q : Int)) = false := decide_eq_false (by omega)
      have e3 : decide (0 < q) = false := decide_eq_false (by omega)
      have e5 : ((j : Int) == 1) = false := by simp; omega
      have hj0 : (0 : Int) < (j : Int) := by omega
      rw [HM.out] at d0
      clear hN d1 hc1 hy hj hC1
      rw [Nat.zero_mul, Nat.add_zero] at d0 d2 d3 d4
      go_wp2_with fail
      have HL := Lib.hid (show LdR w (w2.alloc (.cells #[.int .i64 b.p.n, .int .i64 b.p.b, .int .i64 b.p.f] 29)) ⟨o, (k : Int) + 1, pf⟩ w2.heap.size b.p gx x.bytes from
        ⟨HW.out.grown (gr_alloc (grownBy_refl w2 none) _), VBox.new w2 b.p, HB.out.gr (gr_alloc (grownBy_refl w2 none) _)⟩)
      go_loopw [15] (fun i W => ∃ m : Nat, m ≤ j ∧ i = .int .i64 m ∧ LdR w W ⟨o, (k : Int) + 1, pf⟩ w2.heap.size b.p gx x.bytes ∧ (m = 0 ∨ j = 8) ∧ (∀ i', i' < m → ∃ y, x.bytes[o + i']? = some y ∧ isPrt b i' y)) (fun i _ => j - (intOf i).toNat)
      case atStart => exact ⟨0, Nat.zero_le _, rfl, HL.out, .inl rfl, fun i' h => by omega⟩
      case round =>
        obtain ⟨m, hm, rfl, hlr, hm8, hpr⟩ := hrel
        have HLR := Lib.hid hlr
        have HPR := Lib.hid hpr
        obtain ⟨y0, y1, y2, z0, z1, z2⟩ := P2.r1 hlr.p2
        have hz := (P2.r0 hlr.p2).2.2.2.2.2.2
        obtain ⟨q0, q1, q2⟩ := hlr.bx.cells
        have hs1 : IntKind.i64.wrap ((m : Int) + 1) = (m : Int) + 1 := by rw [IntKind.wrap_i64]; omega
        have HM8 := Lib.hid hm8
        clear hpr hm8
        by_cases hlt : m < j
        · obtain ⟨y, hy, d0, d1, d2, d3, d4⟩ := hlr.rd.seg (o := o) (k := m) (by omega)
          have HYJ := Lib.hid hy
          clear hlr hy d1
          by_cases h8 : j = 8
          · have HJ8 := Lib.hid h8
            have e8 : ((j : Int) != 8) = false := by simp; omega
            have e8' : (j != 8) = false := by simp; omega
            clear h8
            by_cases a0 : y.k = 2
            · have f0 : (y.k != 2) = false := by simpa using a0
              by_cases a1 : y.p.f = (m : Int) + 1
              · have f1 : (y.p.f != (m : Int) + 1) = false := by simpa using a1
                by_cases a2 : y.p.n = b.p.n
                · have f2 : (y.p.n != b.p.n) = false := by simpa using a2
                  by_cases a3 : y.p.b = b.p.b
                  · have f3 : (y.p.b != b.p.b) = false := by simpa using a3
                    have HIP := Lib.hid (show isPrt b m y from ⟨a0, a1, a2, a3⟩)
                    clear a0 a1 a2 a3
                    go_wp2_with fail
                    go_quiet (fail)
                    go_wp2_with fail
                    go_roundw
                    case rel => exact ⟨m + 1, by omega, by go_num, HLR.out.drewN _, .inr HJ8.out, fun i' hi' => by
                      rcases Nat.lt_or_ge i' m with h | h
                      · exact HPR.out i' h
                      · obtain rfl : i' = m := by omega
                        exact ⟨y, HYJ.out, HIP.out⟩⟩
                    case measure => first | (simp [intOf]; done) | (simp [intOf]; omega)
                  · have f3 : (y.p.b != b.p.b) = true := by simpa using a3
                    have HD := Lib.hid (show decR b (segL x.bytes o j) = (val0, 9) from dec_none HM.out (by rw [seg_len (by omega)]; exact HC0.out) (.inr ⟨m, y, by rw [seg_at (by omega)]; exact HYJ.out, fun h => a3 h.2.2.2⟩))
                    clear a0 a1 a2 a3
                    go_wp2_with fail
                    go_quiet (fail)
                    go_wp2_with fail
                    exact bodyPost_ret (v := .tuple #[.agg #[.int .i64 0, .int .i64 0, .int .i64 0], .int .i64 9]) (by simp [results, Try.results18, go_sem, y0, y1, y2]) rfl ⟨by rw [HD.out]; rfl, by have := gr_drewN HLR.out.p2.gr nq; repeat (first | with_reducible exact grownBy_refl _ _ | with_reducible assumption | with_reducible refine World.grownBy.gr_drew ?_ | with_reducible refine World.grownBy.gr_set ?_ (by simp) _ | with_reducible refine gr_alloc ?_ _)⟩
                · have f2 : (y.p.n != b.p.n) = true := by simpa using a2
                  have HD := Lib.hid (show decR b (segL x.bytes o j) = (val0, 9) from dec_none HM.out (by rw [seg_len (by omega)]; exact HC0.out) (.inr ⟨m, y, by rw [seg_at (by omega)]; exact HYJ.out, fun h => a2 h.2.2.1⟩))
                  clear a0 a1 a2
                  go_wp2_with fail
                  go_quiet (fail)
                  go_wp2_with fail
                  exact bodyPost_ret (v := .tuple #[.agg #[.int .i64 0, .int .i64 0, .int .i64 0], .int .i64 9]) (by simp [results, Try.results18, go_sem, y0, y1, y2]) rfl ⟨by rw [HD.out]; rfl, by have := gr_drewN HLR.out.p2.gr nq; repeat (first | with_reducible exact grownBy_refl _ _ | with_reducible assumption | with_reducible refine World.grownBy.gr_drew ?_ | with_reducible refine World.grownBy.gr_set ?_ (by simp) _ | with_reducible refine gr_alloc ?_ _)⟩
              · have f1 : (y.p.f != (m : Int) + 1) = true := by simpa using a1
                have HD := Lib.hid (show decR b (segL x.bytes o j) = (val0, 9) from dec_none HM.out (by rw [seg_len (by omega)]; exact HC0.out) (.inr ⟨m, y, by rw [seg_at (by omega)]; exact HYJ.out, fun h => a1 h.2.1⟩))
                clear a0 a1
                go_wp2_with fail
                go_quiet (fail)
                go_wp2_with fail
                exact bodyPost_ret (v := .tuple #[.agg #[.int .i64 0, .int .i64 0, .int .i64 0], .int .i64 9]) (by simp [results, Try.results18, go_sem, y0, y1, y2]) rfl ⟨by rw [HD.out]; rfl, by have := gr_drewN HLR.out.p2.gr nq; repeat (first | with_reducible exact grownBy_refl _ _ | with_reducible assumption | with_reducible refine World.grownBy.gr_drew ?_ | with_reducible refine World.grownBy.gr_set ?_ (by simp) _ | with_reducible refine gr_alloc ?_ _)⟩
            · have f0 : (y.k != 2) = true := by simpa using a0
              have HD := Lib.hid (show decR b (segL x.bytes o j) = (val0, 9) from dec_none HM.out (by rw [seg_len (by omega)]; exact HC0.out) (.inr ⟨m, y, by rw [seg_at (by omega)]; exact HYJ.out, fun h => a0 h.1⟩))
              clear a0
              go_wp2_with fail
              go_quiet (fail)
              go_wp2_with fail
              exact bodyPost_ret (v := .tuple #[.agg #[.int .i64 0, .int .i64 0, .int .i64 0], .int .i64 9]) (by simp [results, Try.results18, go_sem, y0, y1, y2]) rfl ⟨by rw [HD.out]; rfl, by have := gr_drewN HLR.out.p2.gr nq; repeat (first | with_reducible exact grownBy_refl _ _ | with_reducible assumption | with_reducible refine World.grownBy.gr_drew ?_ | with_reducible refine World.grownBy.gr_set ?_ (by simp) _ | with_reducible refine gr_alloc ?_ _)⟩
          · have e8 : ((j : Int) != 8) = true := by simp; omega
            have e8' : (j != 8) = true := by simp; omega
            have HD := Lib.hid (show decR b (segL x.bytes o j) = (val0, 9) from dec_none HM.out (by rw [seg_len (by omega)]; exact HC0.out) (.inl (by rw [seg_len (by omega)]; exact h8)))
            clear h8
            go_wp2_with fail
            go_quiet (fail)
            go_wp2_with fail
            exact bodyPost_ret (v := .tuple #[.agg #[.int .i64 0, .int .i64 0, .int .i64 0], .int .i64 9]) (by simp [results, Try.results18, go_sem, y0, y1, y2]) rfl ⟨by rw [HD.out]; rfl, by have := gr_drewN HLR.out.p2.gr nq; repeat (first | with_reducible exact grownBy_refl _ _ | with_reducible assumption | with_reducible refine World.grownBy.gr_drew ?_ | with_reducible refine World.grownBy.gr_set ?_ (by simp) _ | with_reducible refine gr_alloc ?_ _)⟩
        · have e : m = j := by omega
          subst e
          clear hlt hlr
          have HJ8 := Lib.hid (show m = 8 from HM8.out.resolve_left (by have := HC1.out; omega))
          have HD := Lib.hid (show decR b (segL x.bytes o m) = (⟨b.p.n, b.p.b, 0⟩, 0) from dec_parts (by rw [seg_at (by have := HC1.out; omega)]; exact HT.out) (by rw [seg_len (by omega)]; exact HJ8.out) (okM_seg HOK.out o m) (fun i' y hy => by
            have hil := (List.getElem?_eq_some_iff.1 hy).1
            rw [seg_len (by omega)] at hil
            obtain ⟨y', hy', hp⟩ := HPR.out i' hil
            rw [seg_at hil, hy'] at hy
            injection hy with hy
            subst hy
            exact hp))
          go_wp2_with fail
          exact bodyPost_ret (v := .tuple #[.agg #[.int .i64 b.p.n, .int .i64 b.p.b, .int .i64 0], .int .i64 0]) (by simp [results, Try.results18, go_sem, y0, y1, y2]) rfl ⟨by rw [HD.out], by have := HLR.out.p2.gr; repeat (first | with_reducible exact grownBy_refl _ _ | with_reducible assumption | with_reducible refine World.grownBy.gr_drew ?_ | with_reducible refine World.grownBy.gr_set ?_ (by simp) _ | with_reducible refine gr_alloc ?_ _)⟩

end Go.Proofs.Ytblhnjoophhliaa
