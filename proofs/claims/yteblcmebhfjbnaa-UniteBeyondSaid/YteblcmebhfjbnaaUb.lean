/- unite: Len, Count, has, top. -/
import Derived.Test.YteblcmebhfjbnaaV4
import Derived.Deep.RegionHeld3
import Derived.BigQuiet
namespace Go.Proofs.Yteblcmebhfjbnaa
open Go.RowKit
set_option maxRecDepth 100000 in
set_option maxHeartbeats 4000000 in
theorem len_at {m b n c : Nat} {W : World} (h : HdB W m b n c) : Calls Try.prog 16 #[.pointer (some ⟨m, 0, none⟩)] W fun e w' => e = .returned (.int .i64 (n : Int)) ∧ W = w' := by
  obtain ⟨c0, _⟩ := h.cells
  clear h
  go_enter Try.func16, Try.ntmps16
  go_wp2_with fail
  go_ret
  exact ⟨rfl, rfl⟩
set_option maxRecDepth 100000 in
set_option maxHeartbeats 4000000 in
theorem count_at {m b n c : Nat} {W : World} (h : HdB W m b n c) : Calls Try.prog 17 #[.pointer (some ⟨m, 0, none⟩)] W fun e w' => e = .returned (.int .i64 (c : Int)) ∧ W = w' := by
  obtain ⟨_, c1⟩ := h.cells
  clear h
  go_enter Try.func17, Try.ntmps17
  go_wp2_with fail
  go_ret
  exact ⟨rfl, rfl⟩
set_option maxRecDepth 100000 in
set_option maxHeartbeats 4000000 in
theorem len_nil (W : World) : Calls Try.prog 16 #[.pointer none] W fun e w' => e = .returned (.int .i64 0) ∧ W = w' := by
  go_enter Try.func16, Try.ntmps16
  go_wp2_with fail
  go_ret
  exact ⟨rfl, rfl⟩
set_option maxRecDepth 100000 in
set_option maxHeartbeats 4000000 in
theorem count_nil (W : World) : Calls Try.prog 17 #[.pointer none] W fun e w' => e = .returned (.int .i64 0) ∧ W = w' := by
  go_enter Try.func17, Try.ntmps17
  go_wp2_with fail
  go_ret
  exact ⟨rfl, rfl⟩
def inG (n : Nat) (i : Int) : Bool := decide (0 ≤ i ∧ i < (n : Int))
/-- has: of groups with n numbers, or of nil ones. -/
theorem has_any {p : Value} {n : Nat} {W : World} (i : Int) (hl : Calls Try.prog 16 #[p] W fun e w' => e = .returned (.int .i64 (n : Int)) ∧ W = w') :
    Calls Try.prog 21 #[p, .int .i64 i] W fun e w' => e = .returned (.bool (inG n i)) ∧ W = w' := by
  have HL := Lib.hid hl
  clear hl
  by_cases h0 : 0 ≤ i
  · by_cases h1 : i < (n : Int)
    · have HE := Lib.hid (show inG n i = true from decide_eq_true ⟨h0, h1⟩)
      go_enter Try.func21, Try.ntmps21
      go_wp2_with fail
      refine HL.out.mono ?_
      rintro e w1 ⟨rfl, rfl⟩
      go_wp2_with fail
      go_ret
      exact ⟨by rw [HE.out]; rfl, rfl⟩
    · have HE := Lib.hid (show inG n i = false from decide_eq_false (fun h => h1 h.2))
      have hd : decide (i < (n : Int)) = false := decide_eq_false h1
      go_enter Try.func21, Try.ntmps21
      go_wp2_with fail
      refine HL.out.mono ?_
      rintro e w1 ⟨rfl, rfl⟩
      go_wp2_with fail
      go_ret
      exact ⟨by rw [HE.out]; rfl, rfl⟩
  · have HE := Lib.hid (show inG n i = false from decide_eq_false (fun h => h0 h.1))
    go_enter Try.func21, Try.ntmps21
    go_wp2_with fail
    go_ret
    exact ⟨by rw [HE.out]; rfl, rfl⟩
set_option maxRecDepth 100000 in
set_option maxHeartbeats 4000000 in
theorem top_any {m b c : Nat} {l : List Nd} {E : List Nat} {W : World} (hm : HdB W m b E.length c) (hb : NdB W b l) (h : UF l E) {i k : Nat} (hi : E[i]? = some k) :
    Calls Try.prog 22 #[.pointer (some ⟨m, 0, none⟩), .int .i64 (i : Int)] W fun e w' => ∃ r : Nat, e = .returned (.int .i64 (r : Int)) ∧ l[r]? = some (r, sizG E k, k) ∧ W = w' := by
  obtain ⟨c0, c1⟩ := hm.cells
  clear c1
  obtain ⟨n, hn⟩ : ∃ n, n = E.length := ⟨_, rfl⟩
  rw [← hn] at c0
  have HN := Lib.hid hn
  obtain ⟨d, hd⟩ := h.deep
  have HD := Lib.hid hd
  have HB := Lib.hid hb
  have HU := Lib.hid h
  have HI := Lib.hid hi
  clear hm hb h hd hi hn
  go_enter Try.func22, Try.ntmps22
  go_wp2_with fail
  go_loopw [1] (fun i wr => ∃ j : Nat, i = .int .i64 j ∧ E[j]? = some k ∧ W = wr) (fun i _ => d (intOf i).toNat)
  case atStart => exact ⟨i, rfl, HI.out, rfl⟩
  case round =>
    obtain ⟨j, rfl, hj, rfl⟩ := hrel
    have hjn : j < n := by rw [HN.out]; exact (List.getElem?_eq_some_iff.1 hj).1
    obtain ⟨x, k', hx, hk'⟩ := HU.out.label (show j < E.length by rw [← HN.out]; exact hjn)
    obtain ⟨d0, d1, d2⟩ := HB.out.cells hx
    clear d1 d2
    obtain ⟨z, hz⟩ : ∃ z : Int, z = (x.1 : Int) := ⟨_, rfl⟩
    rw [← hz] at d0
    have HX := Lib.hid hx
    have HJ := Lib.hid hj
    clear hx hj hk'
    by_cases hxj : x.1 = j
    · have e1 : (z == (j : Int)) = true := by simp [hz, hxj]
      have HR := Lib.hid (show l[j]? = some (j, sizG E k, k) by
        obtain ⟨t1, t2⟩ := HU.out.top j x HX.out hxj
        rw [HJ.out] at t1
        injection t1 with t1
        rw [HX.out]
        congr 1
        exact Prod.ext hxj (Prod.ext (by rw [t2, ← t1]) t1.symm))
      clear hxj hz
      go_wp2_with fail
      go_ret
      exact ⟨j, rfl, HR.out, rfl⟩
    · have e1 : (z == (j : Int)) = false := by simp [hz]; omega
      have HQ := Lib.hid (show E[x.1]? = some k by
        obtain ⟨k2, t1, t2⟩ := HU.out.par j x HX.out
        rw [HJ.out] at t1
        injection t1 with t1
        rw [t1, t2])
      have HM := Lib.hid (HD.out j x HX.out hxj)
      have HZ := Lib.hid hz
      clear hxj hz
      go_wp2_with fail
      go_roundw
      case rel => exact ⟨x.1, by rw [HZ.out], HQ.out, trivial⟩
      case measure =>
        have h1 := HM.out
        have h2 := HZ.out
        simp [intOf, h2]
        exact h1

end Go.Proofs.Yteblcmebhfjbnaa
