/- lex.number: whatever the digits. -/
import Derived.Test.YthbhlmkgbinegaaDoorN2
import Derived.Test.YthbhlmkgbinegaaDoorN3
namespace Go.Proofs.YthbhlmkgbinegaaDoor
open Go.RowKit
theorem pfx_pos (p : Int → Bool) (l : List UInt8) (h : p ((l.headD 0).toNat : Nat) = true) (h0 : 0 < l.length) : 0 < pfx p l := by
  cases l with
  | nil => simp at h0
  | cons b l => simp at h; simp [pfx, h]
theorem numberR_any (s : ByteArray) (w : World) (hs : s.size ≤ 20000) (h0 : 0 < s.size) (hdig : isDig (s[0].toNat : Nat) = true) (hv : Vars w) :
    Calls Tryd.prog 28 #[.string s] w fun e w' => e = .returned (tokV s (numberR s.data.toList)) ∧ Below w.heap.size w w' := by
  have hlen : s.data.toList.length = s.size := by simp
  have hh := headD_bytes s h0
  by_cases hc : s[0] = 48
  · have hc' : (s[0].toNat : Int) = 48 := by rw [hc]; rfl
    by_cases hx : 0 < hexD s.data.toList
    · have hsp : spanR s.data.toList = ⟨2, 2 + hexD s.data.toList, 16⟩ := by unfold spanR; rw [if_neg (by rw [hh, hc]; decide), if_pos hx]
      obtain ⟨a1, a2, a3⟩ := hexD_pos hx
      have hp := pfx_le isHx (s.data.toList.drop 2)
      rw [List.length_drop] at hp
      refine number_hex s w hs hv (hexD s.data.toList) rfl hx (by omega) hc' ?_ ?_
      · show ∀ c ∈ _, _
        intro c hc
        have : c ∈ (s.data.toList.drop 2).take (hexD s.data.toList) := by
          rw [List.drop_take] at hc
          rwa [show 2 + hexD s.data.toList - 2 = hexD s.data.toList by omega] at hc
        have := take_all isHx _ _ a2 c this
        simpa [okDig] using this
      · show numberR _ = _
        simp only [numberR, hsp]
    · have hsp : spanR s.data.toList = ⟨0, 1, 10⟩ := by unfold spanR; rw [if_neg (by rw [hh, hc]; decide), if_neg hx]
      refine number_zero s w hs hv (by show _ = _; omega) (by omega) hc' ?_ ?_
      · show ∀ c ∈ _, _
        intro c hc2
        rw [List.drop_zero] at hc2
        have := take_all isDig s.data.toList 1 (pfx_pos _ _ (by rw [hh]; exact hdig) (by omega)) c hc2
        simp [isDig] at this
        simp [okDig]; omega
      · show numberR _ = _
        simp only [numberR, hsp]
  · have hc' : ¬ (s[0].toNat : Int) = 48 := by
      intro e; exact hc (UInt8.toNat_inj.1 (by have : (48 : UInt8).toNat = 48 := rfl; omega))
    have hsp : spanR s.data.toList = ⟨0, pfx isDig s.data.toList, 10⟩ := by
      unfold spanR; rw [if_pos]; rw [hh]; exact hc
    have hle := pfx_le isDig s.data.toList
    refine number_dec s w hs hv (pfx isDig s.data.toList) rfl (pfx_pos _ _ (by rw [hh]; exact hdig) (by omega)) (by omega) hc' ?_ ?_
    · show ∀ c ∈ _, _
      intro c hc2
      rw [List.drop_zero] at hc2
      have := take_all isDig s.data.toList _ (Nat.le_refl _) c hc2
      simp [isDig] at this
      simp [okDig]; omega
    · show numberR _ = _
      simp only [numberR, hsp]
end Go.Proofs.YthbhlmkgbinegaaDoor
