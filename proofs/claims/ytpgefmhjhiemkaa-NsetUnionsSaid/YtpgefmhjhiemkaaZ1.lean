/- The document's sets, walked: Has, Add. -/
import Derived.Test.YtpgefmhjhiemkaaZi
import Derived.Test.YtpgefmhjhiemkaaZw
namespace Go.Proofs.Ytpgefmhjhiemkaa
open Go.RowKit
set_option maxRecDepth 100000 in
set_option maxHeartbeats 4000000 in
theorem r13_Has_any (A : Option Addr) (n c : Nat) (l : List Int) (x : Int) (w : World) (hA : IntsAt w A n c l) (hl : l.length ≤ 1000000000000) :
    Calls Try.prog 21 #[.slice A n c, .int .i64 x] w fun e w' => e = .returned (.bool (decide (x ∈ l))) ∧ w.grownBy w' none := by
  have HA := Lib.hid hA
  obtain rfl : n = l.length := hA.1
  clear hA
  obtain ⟨b, hb⟩ : ∃ b, b = decide (x ∈ l) := ⟨_, rfl⟩
  rw [← hb]
  have HBB := Lib.hid hb
  clear hb
  go_enter Try.func21, Try.ntmps21
  go_wp2_with fail
  go_loopw [5] (fun i wr => ∃ q : Nat, q ≤ l.length ∧ i = .int .i64 q ∧ x ∉ l.take q ∧ w.grownBy wr none) (fun i _ => l.length - (intOf i).toNat)
  case atStart => exact ⟨0, Nat.zero_le _, rfl, by simp, grownBy_refl _ _⟩
  case round =>
    obtain ⟨q, hq, rfl, ht, hg⟩ := hrel
    have HG := Lib.hid hg
    have HT := Lib.hid ht
    clear hg ht
    by_cases hlt : q < l.length
    · obtain ⟨ad, rfl, hc1⟩ := (HA.out.keep HG.out).at_ hlt
      have HX := Lib.hid (show l[q]? = some l[q] from List.getElem?_eq_getElem hlt)
      generalize l[q] = y at hc1 HX
      by_cases hxy : y = x
      · subst hxy
        go_wp2_with fail
        go_ret
        exact ⟨by rw [HBB.out, decide_eq_true (List.mem_of_getElem? HX.out)]; rfl, HG.out⟩
      · have e1 : (y == x) = false := by simpa using hxy
        have HN := Lib.hid hxy
        clear hxy
        go_wp2_with fail
        go_roundw
        case rel => exact ⟨q + 1, by omega, by go_num, by
          rw [List.take_add_one, HX.out]
          intro h
          rcases List.mem_append.1 h with h | h
          · exact HT.out h
          · exact HN.out ((show x = y by simpa using h).symm), HG.out⟩
        case measure => simp [intOf]; omega
    · have HE := Lib.hid (show decide (x ∈ l) = false by
        have h1 := HT.out
        rw [List.take_of_length_le (by omega)] at h1
        exact decide_eq_false h1)
      go_wp2_with fail
      go_ret
      exact ⟨by rw [HBB.out, HE.out]; rfl, HG.out⟩
set_option maxRecDepth 100000 in
set_option maxHeartbeats 4000000 in
theorem r13_Add_any (A : Option Addr) (n c : Nat) (l : List Int) (x : Int) (w : World) (hA : IntsAt w A n c l) (hl : l.length ≤ 100000000000) :
    Calls Try.prog 13 #[.slice A n c, .int .i64 x] w fun e w' => ∃ B m d, e = .returned (.tuple #[.slice B m d, .bool (addI13 l x).2]) ∧ IntsAt w' B m d (addI13 l x).1 ∧ w.grownBy w' none ∧ ∀ ad, B = some ad → w.heap.size ≤ ad.block ∨ (B = A ∧ (addI13 l x).1 = l) := by
  have HA := Lib.hid hA
  clear hA
  obtain ⟨q, hq⟩ : ∃ q, q = addI13 l x := ⟨_, rfl⟩
  rw [← hq]
  have HQ := Lib.hid hq
  clear hq
  by_cases h0 : x < 0
  · have HE := Lib.hid (show q = (l, false) by rw [HQ.out, addI13, if_neg (by omega)])
    go_enter Try.func13, Try.ntmps13
    go_wp2_with fail
    go_ret2
    exact ⟨A, n, c, by rw [HE.out]; rfl, by rw [HE.out]; exact HA.out, grownBy_refl _ _, fun _ _ => .inr ⟨rfl, by rw [HE.out]⟩⟩
  by_cases h1 : 1000000 < x
  · have HE := Lib.hid (show q = (l, false) by rw [HQ.out, addI13, if_neg (by omega)])
    go_enter Try.func13, Try.ntmps13
    go_wp2_with fail
    go_ret2
    exact ⟨A, n, c, by rw [HE.out]; rfl, by rw [HE.out]; exact HA.out, grownBy_refl _ _, fun _ _ => .inr ⟨rfl, by rw [HE.out]⟩⟩
  by_cases h2 : x ∈ l
  · have HE := Lib.hid (show q = (l, false) by rw [HQ.out, addI13, if_neg (fun h => h.2.2 h2)])
    have HB := Lib.hid (decide_eq_true h2)
    clear h2
    go_enter Try.func13, Try.ntmps13
    go_wp2_with fail
    refine (r13_Has_any A n c l x w HA.out (by omega)).mono ?_
    rintro e w1 ⟨rfl, hg⟩
    rw [HB.out]
    have HG := Lib.hid hg
    clear hg
    go_wp2_with fail
    go_ret2
    exact ⟨A, n, c, by rw [HE.out]; rfl, by rw [HE.out]; exact HA.out.keep HG.out, HG.out, fun _ _ => .inr ⟨rfl, by rw [HE.out]⟩⟩
  · have HE := Lib.hid (show q = (withI l x, true) by rw [HQ.out, addI13, if_pos ⟨by omega, by omega, h2⟩, withI, if_neg h2])
    have HB := Lib.hid (decide_eq_false h2)
    have HNM := Lib.hid h2
    clear h2
    go_enter Try.func13, Try.ntmps13
    go_wp2_with fail
    refine (r13_Has_any A n c l x w HA.out (by omega)).mono ?_
    rintro e w1 ⟨rfl, hg⟩
    rw [HB.out]
    have HG := Lib.hid hg
    clear hg
    go_wp2_with fail
    refine (WithInt_any A n c l x w1 (HA.out.keep HG.out) hl).mono ?_
    rintro e w2 ⟨B, m, d, rfl, hI, hg, hB⟩
    have HI := Lib.hid hI
    have HG2 := Lib.hid (grownBy_trans HG.out hg)
    have HN := Lib.hid (show ∀ ad, B = some ad → w.heap.size ≤ ad.block from fun ad e => (hB ad e).elim (fun h => Nat.le_trans HG.out.size h) fun h => by rw [if_neg HNM.out] at h; rw [h] at e; cases e)
    clear hI hg hB
    go_wp2_with fail
    go_ret2
    exact ⟨B, m, d, by rw [HE.out]; rfl, by rw [HE.out]; exact HI.out, HG2.out, fun ad e => .inl (HN.out ad e)⟩

end Go.Proofs.Ytpgefmhjhiemkaa
