/- The document's memory: Store of a number. -/
import Derived.Test.YtblhnjoophhliaaM33
namespace Go.Proofs.Ytblhnjoophhliaa
open Go.RowKit
/-- What is left of a number behind j bytes. -/
def qd (n : Int) (j : Nat) : Int := n % 18446744073709551616 / 256 ^ j
theorem qd_zero (n : Int) : IntKind.u64.wrap n = qd n 0 := by
  have e : IntKind.u64.wrap n = n % 18446744073709551616 := by simp [IntKind.wrap, IntKind.signed, IntKind.bits]
  rw [e]; unfold qd; simp
theorem qd_nonneg (n : Int) (j : Nat) : 0 ≤ qd n j := Int.ediv_nonneg (by omega) (Int.pow_nonneg (by omega))
theorem qd_succ (n : Int) (j : Nat) : qd n j / 256 = qd n (j + 1) := by
  unfold qd
  rw [Int.pow_succ, Int.ediv_ediv_of_nonneg (Int.pow_nonneg (by omega))]
theorem qd_byte (n : Int) {j : Nat} (h : j < 8) : qd n j % 256 = byteOf n j := by
  have hj : j = 0 ∨ j = 1 ∨ j = 2 ∨ j = 3 ∨ j = 4 ∨ j = 5 ∨ j = 6 ∨ j = 7 := by omega
  unfold qd byteOf
  rcases hj with rfl | rfl | rfl | rfl | rfl | rfl | rfl | rfl
  · rw [show (256 : Int) ^ 0 = 1 from rfl, show (2 : Int) ^ (8 * 0) = 1 from rfl]; omega
  · rw [show (256 : Int) ^ 1 = 256 from rfl, show (2 : Int) ^ (8 * 1) = 256 from rfl]; omega
  · rw [show (256 : Int) ^ 2 = 65536 from rfl, show (2 : Int) ^ (8 * 2) = 65536 from rfl]; omega
  · rw [show (256 : Int) ^ 3 = 16777216 from rfl, show (2 : Int) ^ (8 * 3) = 16777216 from rfl]; omega
  · rw [show (256 : Int) ^ 4 = 4294967296 from rfl, show (2 : Int) ^ (8 * 4) = 4294967296 from rfl]; omega
  · rw [show (256 : Int) ^ 5 = 1099511627776 from rfl, show (2 : Int) ^ (8 * 5) = 1099511627776 from rfl]; omega
  · rw [show (256 : Int) ^ 6 = 281474976710656 from rfl, show (2 : Int) ^ (8 * 6) = 281474976710656 from rfl]; omega
  · rw [show (256 : Int) ^ 7 = 72057594037927936 from rfl, show (2 : Int) ^ (8 * 7) = 72057594037927936 from rfl]; omega
theorem qd_lt (n : Int) (j : Nat) : qd n j < 18446744073709551616 := by
  unfold qd
  have h1 : (0 : Int) < 256 ^ j := Int.pow_pos (by omega)
  have h2 : n % 18446744073709551616 / 256 ^ j ≤ n % 18446744073709551616 := Int.ediv_le_self _ (by omega)
  omega
theorem qd_wrap {n q : Int} {j : Nat} (h : q = qd n j) : IntKind.u64.wrap q = q := by
  have e : IntKind.u64.wrap q = q % 18446744073709551616 := by simp [IntKind.wrap, IntKind.signed, IntKind.bits]
  have h1 := qd_nonneg n j
  have h2 := qd_lt n j
  rw [e]
  omega
theorem numL_byts (n : Int) (k : Nat) : Byts (numL n k) := fun b hb => by
  obtain ⟨i, _, rfl⟩ := List.mem_map.1 hb
  exact byteOf_byte _ _
theorem acc_ok {bs : List Blk} {p : Val} {n : Int} (h : accI bs p n = 0) : widB n = true ∧ ∃ k, cutB bs p n = some k := by
  unfold accI at h
  split at h
  · omega
  · rename_i hw
    split at h
    · rename_i hc
      exact ⟨by simpa using hw, Option.isSome_iff_exists.1 hc⟩
    · omega
set_option maxRecDepth 100000 in
set_option maxHeartbeats 4000000 in
theorem rStore_num {S : Nat → Prop} {ad : Option Addr} {rs : List RB} (cap : Nat) (p : Val) (vn : Int) (c k : Nat) (w : World) (h : RefAt S w ad rs) (ha : accI (rsB rs) p c = 0) (hc8 : c ≤ 8) (hc : cutB (rsB rs) p c = some k) :
    Calls Try.prog 20 #[.slice ad rs.length cap, valV p, .int .i64 c, valV ⟨vn, 0, 0⟩] w fun e w' => ∃ u, e = .returned (.tuple #[u, .int .i64 0]) ∧ RefP S w w' u (layBs (rsB rs) k p.n.toNat (numL vn c)) ∧ w.grownBy w' none := by
  have HR := Lib.hid h
  have HACC := Lib.hid (fun W (hW : RefAt S W ad rs) => access_any cap p c W hW)
  rw [ha] at HACC
  obtain ⟨x, hx, hpb, o, hpo, hol⟩ := cutB_in hc
  have HX := Lib.hid hx
  obtain ⟨pn, pb, pf⟩ := p
  dsimp only at *
  subst hpb hpo
  rw [Int.toNat_natCast]
  have HP := Lib.hid (fun W => r10_Pointer_any ⟨vn, 0, 0⟩ W)
  rw [show ptrB ⟨vn, 0, 0⟩ = false from decide_eq_false (fun h => by have := h.1; dsimp only at this; omega)] at HP
  unfold valV valC at *
  dsimp only at *
  have HV0 := Lib.hid (P2.new w o ((k : Int) + 1) pf vn 0 0)
  obtain ⟨i0, hi, hz0, hz1, hz2⟩ := info_parts infoByte
  have HQ0 := Lib.hid (qd_zero vn)
  clear h ha hc hx
  go_enter Try.func20, Try.ntmps20
  go_wp2_with fail
  refine (HACC.out _ (HR.out.gr HV0.out.gr)).mono ?_
  rintro e w1 ⟨rfl, g1⟩
  have HV1 := Lib.hid (HV0.out.grown g1)
  clear g1
  obtain ⟨y0, y1, y2, z0, z1, z2⟩ := P2.r1 HV1.out
  go_wp2_with fail
  refine (HP.out _).mono ?_
  rintro e w2 ⟨rfl, g2⟩
  have HV2 := Lib.hid (HV1.out.grown g2)
  clear g2 y0 y1 y2 z0 z1 z2
  obtain ⟨y0, y1, y2, z0, z1, z2⟩ := P2.r1 HV2.out
  go_wp2_with fail
  go_loopw [11, 12, 13] (fun l q i W => ∃ j : Nat, j ≤ c ∧ i = .int .i64 j ∧ q = .int .u64 (qd vn j) ∧ P2 w ⟨o, (k : Int) + 1, pf⟩ ⟨vn, 0, 0⟩ W ∧ W.ownsRow (w.heap.size + 2) 67 5 l j (flatC bytC (numL vn j))) (fun _ _ i _ => c - (intOf i).toNat)
  case atStart => exact ⟨0, Nat.zero_le _, rfl, by rw [HQ0.out], HV2.out, ⟨rfl, .inl ⟨rfl, rfl⟩⟩⟩
  case round =>
    obtain ⟨j, hj, rfl, rfl, hP, hO⟩ := hrel
    obtain ⟨la, lc, rfl, _, _⟩ := own_form hO
    have HP := Lib.hid hP
    have HO := Lib.hid hO
    obtain ⟨y0, y1, y2, z0, z1, z2⟩ := P2.r1 hP
    have hz := (P2.r0 hP).2.2.2.2.2.2
    clear hP hO
    by_cases hlt : j < c
    · have HB := Lib.hid (qd_byte vn (show j < 8 by omega))
      have HS := Lib.hid (qd_succ vn j)
      have hq0 := qd_nonneg vn j
      generalize qd vn j = q at *
      go_wp2_with (at_builtin; go_must (refine wpList_append_own _ rfl (.tmp 79) (.tmp 81) 55 rfl (w.heap.size + 2) 67 i0 _ 5 40 Try.underlying55 hi hz0 hz1 hz2 rfl (by decide) _ j (flatC bytC (numL vn j)) rfl (own_gr HO.out (gr_alloc (gr_alloc (grownBy_refl wr none) _) _)) ⟨wr.heap.size + 1, 0, none⟩ 1 1 (bytC ⟨1, q % 256, val0⟩).toList rfl rfl (by have h5 := five_cells (wr.alloc (.cells #[.int .i64 1, .int .u8 (q % 256), .int .i64 0, .int .i64 0, .int .i64 0] 67)) ⟨1, q % 256, val0⟩; simp only [World.size_alloc] at h5; exact h5) (bytC_one _) (by unfold maxLen; omega) (by omega) (by simp only [World.size_alloc]; omega) ?_; intro v' w4 hown hgr _; have HO4 := Lib.hid hown; have HG4 := Lib.hid hgr; clear hown hgr))
      go_roundw
      case rel =>
        refine ⟨j + 1, by omega, by go_num, ?_, (HP.out.grown (gr_alloc (gr_alloc (grownBy_refl wr none) _) _)).far HG4.out (fun q hq => own_ge HO.out hq), ?_⟩
        · rw [← HS.out, Int.tdiv_eq_ediv_of_nonneg hq0, qd_wrap HS.out]
        · have h := HO4.out
          rw [HB.out] at h
          rw [← numL_succ, flat_app]
          simpa [flatC] using h
      case measure => simp [intOf]; omega
    · have e : j = c := by omega
      subst e
      clear hlt
      clear y0 y1 y2 z0 z1 z2 hz
      obtain ⟨x0, x1, x2, f0, f1, f2, hz⟩ := P2.r0 HP.out
      have hln : (numL vn j).length = j := numL_len _ _
      have hO := HO.out
      have hrd : RdAt wr la (numL vn j) := own_rd (B := w.heap.size + 2) (c := lc) (by rw [hln]; exact hO)
      have hL := Lay_any cap lc ⟨o, (k : Int) + 1, pf⟩ (numL vn j) wr (HR.out.gr HP.out.gr) (k := k) (o := o) HX.out rfl rfl (by rw [hln]; exact hol) hrd (numL_byts vn j)
      unfold valV valC at hL
      rw [hln] at hL
      have HL := Lib.hid hL
      clear hL hrd hO hln hol
      go_wp2_with fail
      refine HL.out.mono ?_
      rintro e w4 ⟨u, rfl, h4, g4⟩
      have H4 := Lib.hid (RefP.pre HP.out.gr HR.out.lt g4 h4)
      have HG4 := Lib.hid (grownBy_trans HP.out.gr g4)
      clear h4 g4
      go_wp2_with fail
      go_ret2
      exact ⟨u, rfl, H4.out, HG4.out⟩

end Go.Proofs.Ytblhnjoophhliaa
