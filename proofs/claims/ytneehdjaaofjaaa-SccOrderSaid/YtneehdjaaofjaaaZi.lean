/- Two lists of ints: alike? -/
import Derived.Test.YtneehdjaaofjaaaZ0
namespace Go.Proofs.Ytneehdjaaofjaaa
open Go.RowKit
set_option maxRecDepth 100000 in
set_option maxHeartbeats 4000000 in
theorem Ints_any (A B : Option Addr) (n m c d : Nat) (l k : List Int) (w : World) (hA : IntsAt w A n c l) (hB : IntsAt w B m d k) (hl : l.length ≤ 1000000000000) :
    Calls Try.prog 11 #[.slice A n c, .slice B m d] w fun e w' => e = .returned (.bool (decide (l = k))) ∧ w.grownBy w' none := by
  have HA := Lib.hid hA
  have HB := Lib.hid hB
  obtain rfl : n = l.length := hA.1
  obtain rfl : m = k.length := hB.1
  clear hA hB
  by_cases hlen : l.length = k.length
  · have HL := Lib.hid hlen
    rw [← hlen] at HB ⊢
    clear hlen
    have HD := Lib.hid (show decide (l = k) = true ∨ decide (l = k) = false by cases decide (l = k) <;> simp)
    obtain ⟨b, hb⟩ : ∃ b, b = decide (l = k) := ⟨_, rfl⟩
    rw [← hb]
    have HBB := Lib.hid hb
    clear hb HD
    go_enter Try.func11, Try.ntmps11
    go_wp2_with fail
    go_loopw [5] (fun i wr => ∃ q : Nat, q ≤ l.length ∧ i = .int .i64 q ∧ l.take q = k.take q ∧ w.grownBy wr none) (fun i _ => l.length - (intOf i).toNat)
    case atStart => exact ⟨0, Nat.zero_le _, rfl, by simp, grownBy_refl _ _⟩
    case round =>
      obtain ⟨q, hq, rfl, ht, hg⟩ := hrel
      have HG := Lib.hid hg
      have HT := Lib.hid ht
      clear hg ht
      by_cases hlt : q < l.length
      · have hlt2 : q < k.length := by have := HL.out; omega
        obtain ⟨ad, rfl, hc1⟩ := (HA.out.keep HG.out).at_ hlt
        obtain ⟨bd, rfl, hc2⟩ := (HB.out.keep HG.out).at_ hlt2
        have HX := Lib.hid (show l[q]? = some l[q] from List.getElem?_eq_getElem hlt)
        have HY := Lib.hid (show k[q]? = some k[q] from List.getElem?_eq_getElem hlt2)
        generalize l[q] = x at hc1 HX
        generalize k[q] = y at hc2 HY
        clear hlt2
        by_cases hxy : x = y
        · subst hxy
          go_wp2_with fail
          go_quiet (fail)
          go_wp2_with fail
          go_roundw
          case rel => exact ⟨q + 1, by omega, by go_num, by rw [List.take_add_one, List.take_add_one, HT.out, HX.out, HY.out], gr_drewN HG.out _⟩
          case measure => simp [intOf]; omega
        · have e1 : (x == y) = false := by simpa using hxy
          have e2 : (x != y) = true := by simpa using hxy
          have HN := Lib.hid hxy
          clear hxy
          go_wp2_with fail
          go_quiet (fail)
          go_wp2_with fail
          go_ret
          have hne : ¬ l = k := by
            intro e
            have h1 := HX.out
            have h2 := HY.out
            rw [e, h2] at h1
            injection h1 with h1
            exact HN.out h1.symm
          exact ⟨by rw [HBB.out, decide_eq_false hne]; rfl, gr_drewN HG.out _⟩
      · have HE := Lib.hid (show decide (l = k) = true by
          have h1 := HT.out
          have h2 := HL.out
          rw [List.take_of_length_le (by omega), List.take_of_length_le (by omega)] at h1
          exact decide_eq_true h1)
        go_wp2_with fail
        go_ret
        exact ⟨by rw [HBB.out, HE.out]; rfl, HG.out⟩
  · rw [decide_eq_false (fun e => hlen (by rw [e]))]
    go_enter Try.func11, Try.ntmps11
    go_wp2_with fail
    go_ret
    exact ⟨rfl, grownBy_refl _ _⟩

end Go.Proofs.Ytneehdjaaofjaaa
