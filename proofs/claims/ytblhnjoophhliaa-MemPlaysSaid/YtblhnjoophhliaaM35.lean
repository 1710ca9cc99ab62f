/- The document's memory: Store of a pointer, or a part. -/
import Derived.Test.YtblhnjoophhliaaM34
namespace Go.Proofs.Ytblhnjoophhliaa
open Go.RowKit
theorem five_at (w : World) (g : Nat) (hg : g = w.heap.size) (b : Byt) : ∀ (j : Nat) (u : Value), (bytC b).toList[j]? = some u → (w.alloc (.cells #[.int .i64 b.k, .int .u8 b.v, .int .i64 b.p.n, .int .i64 b.p.b, .int .i64 b.p.f] 67)).cell? ((⟨g, 0, none⟩ : Addr).add j) = some u := by
  subst hg
  exact five_cells w b
theorem ptrL_byts (v : Val) (k : Nat) : Byts (ptrL v k) := fun b hb => by
  obtain ⟨i, _, rfl⟩ := List.mem_map.1 hb
  exact ⟨Int.le_refl _, by show (0 : Int) < 256; omega⟩
set_option maxRecDepth 100000 in
set_option maxHeartbeats 4000000 in
theorem rStore_ptr {S : Nat → Prop} {ad : Option Addr} {rs : List RB} (cap : Nat) (p : Val) (vn vb : Int) (hvb : 0 < vb) (k : Nat) (w : World) (h : RefAt S w ad rs) (ha : accI (rsB rs) p (8 : Nat) = 0) (hc : cutB (rsB rs) p (8 : Nat) = some k) :
    Calls Try.prog 20 #[.slice ad rs.length cap, valV p, .int .i64 8, valV ⟨vn, vb, 0⟩] w fun e w' => ∃ u, e = .returned (.tuple #[u, .int .i64 0]) ∧ RefP S w w' u (layBs (rsB rs) k p.n.toNat (ptrL ⟨vn, vb, 0⟩ 8)) ∧ w.grownBy w' none := by
  have HR := Lib.hid h
  have HACC := Lib.hid (fun W (hW : RefAt S W ad rs) => access_any cap p (8 : Nat) W hW)
  rw [ha] at HACC
  obtain ⟨x, hx, hpb, o, hpo, hol⟩ := cutB_in hc
  have HX := Lib.hid hx
  obtain ⟨pn, pb, pf⟩ := p
  dsimp only at *
  subst hpb hpo
  rw [Int.toNat_natCast]
  have HP := Lib.hid (fun W => r10_Pointer_any ⟨vn, vb, 0⟩ W)
  rw [show ptrB ⟨vn, vb, 0⟩ = true from decide_eq_true ⟨hvb, rfl⟩] at HP
  unfold valV valC at *
  dsimp only at *
  have HV0 := Lib.hid (P2.new w o ((k : Int) + 1) pf vn vb 0)
  obtain ⟨i0, hi, hz0, hz1, hz2⟩ := info_parts infoByte
  have HQ0 := Lib.hid (qd_zero vn)
  clear h ha hc hx
  go_enter Try.func20, Try.ntmps20
  go_wp2_with fail
  refine (HACC.out _ (HR.out.gr HV0.out.gr)).mono ?_
  rintro e w1 ⟨rfl, g1⟩
  have HV1 := Lib.hid (HV0.out.grown g1)
  clear g1
  obtain ⟨y0, y1, y2, z0, z1, z2⟩ := P2.r1 HV1.out
  go_wp2_with fail
  refine (HP.out _).mono ?_
  rintro e w2 ⟨rfl, g2⟩
  have HV2 := Lib.hid (HV1.out.grown g2)
  clear g2 y0 y1 y2 z0 z1 z2
  obtain ⟨y0, y1, y2, z0, z1, z2⟩ := P2.r1 HV2.out
  go_wp2_with fail
  go_loopw [11, 12, 13] (fun l q i W => ∃ j : Nat, j ≤ 8 ∧ i = .int .i64 j ∧ q = .int .u64 (qd vn j) ∧ P2 w ⟨o, (k : Int) + 1, pf⟩ ⟨vn, vb, 0⟩ W ∧ W.ownsRow (w.heap.size + 2) 67 5 l j (flatC bytC (ptrL ⟨vn, vb, 0⟩ j))) (fun _ _ i _ => 8 - (intOf i).toNat)
  case atStart => exact ⟨0, Nat.zero_le _, rfl, by rw [HQ0.out], HV2.out, ⟨rfl, .inl ⟨rfl, rfl⟩⟩⟩
  case round =>
    obtain ⟨j, hj, rfl, rfl, hP, hO⟩ := hrel
    obtain ⟨la, lc, rfl, _, _⟩ := own_form hO
    have HP := Lib.hid hP
    have HO := Lib.hid hO
    obtain ⟨y0, y1, y2, z0, z1, z2⟩ := P2.r1 hP
    have hj1 : IntKind.i64.wrap ((j : Int) + 1) = (j : Int) + 1 := by rw [IntKind.wrap_i64]; omega
    have hz := (P2.r0 hP).2.2.2.2.2.2
    clear hP hO
    by_cases hlt : j < 8
    · have HB := Lib.hid (qd_byte vn (show j < 8 by omega))
      have HS := Lib.hid (qd_succ vn j)
      have hq0 := qd_nonneg vn j
      generalize qd vn j = q at *
      go_wp2_with (at_builtin; go_must (refine wpList_append_own _ rfl (.tmp 79) (.tmp 81) 55 rfl (w.heap.size + 2) 67 i0 _ 5 40 Try.underlying55 hi hz0 hz1 hz2 rfl (by decide) _ j (flatC bytC (ptrL ⟨vn, vb, 0⟩ j)) rfl (own_gr HO.out (by repeat (first | with_reducible exact grownBy_refl _ _ | with_reducible assumption | with_reducible refine World.grownBy.gr_drew ?_ | with_reducible refine World.grownBy.gr_set ?_ (by simp) _ | with_reducible refine gr_alloc ?_ _))) ⟨wr.heap.size + 1, 0, none⟩ 1 1 (bytC ⟨2, 0, ⟨vn, vb, (j : Int) + 1⟩⟩).toList rfl rfl (five_at _ _ (by simp) ⟨2, 0, ⟨vn, vb, (j : Int) + 1⟩⟩) (bytC_one _) (by unfold maxLen; omega) (by omega) (by simp; omega) ?_; intro v' w4 hown hgr _; have HO4 := Lib.hid hown; have HG4 := Lib.hid hgr; clear hown hgr))
      go_roundw
      case rel =>
        refine ⟨j + 1, by omega, by go_num, ?_, (HP.out.grown (by repeat (first | with_reducible exact grownBy_refl _ _ | with_reducible assumption | with_reducible refine World.grownBy.gr_drew ?_ | with_reducible refine World.grownBy.gr_set ?_ (by simp) _ | with_reducible refine gr_alloc ?_ _))).far HG4.out (fun q hq => own_ge HO.out hq), ?_⟩
        · rw [← HS.out, Int.tdiv_eq_ediv_of_nonneg hq0, qd_wrap HS.out]
        · have h := HO4.out
          rw [← ptrL_succ, flat_app]
          simpa [flatC] using h
      case measure => simp [intOf]; omega
    · have e : j = 8 := by omega
      subst e
      clear hlt
      clear y0 y1 y2 z0 z1 z2 hz
      obtain ⟨x0, x1, x2, f0, f1, f2, hz⟩ := P2.r0 HP.out
      have hln : (ptrL ⟨vn, vb, 0⟩ 8).length = 8 := ptrL_len _ _
      have hO := HO.out
      have hrd : RdAt wr la (ptrL ⟨vn, vb, 0⟩ 8) := own_rd (B := w.heap.size + 2) (c := lc) (by rw [hln]; exact hO)
      have hL := Lay_any cap lc ⟨o, (k : Int) + 1, pf⟩ (ptrL ⟨vn, vb, 0⟩ 8) wr (HR.out.gr HP.out.gr) (k := k) (o := o) HX.out rfl rfl (by rw [hln]; exact hol) hrd (ptrL_byts _ _)
      unfold valV valC at hL
      rw [hln] at hL
      have HL := Lib.hid hL
      clear hL hrd hO hln hol
      go_wp2_with fail
      refine HL.out.mono ?_
      rintro e w4 ⟨u, rfl, h4, g4⟩
      have H4 := Lib.hid (RefP.pre HP.out.gr HR.out.lt g4 h4)
      have HG4 := Lib.hid (grownBy_trans HP.out.gr g4)
      clear h4 g4
      go_wp2_with fail
      go_ret2
      exact ⟨u, rfl, H4.out, HG4.out⟩

end Go.Proofs.Ytblhnjoophhliaa
