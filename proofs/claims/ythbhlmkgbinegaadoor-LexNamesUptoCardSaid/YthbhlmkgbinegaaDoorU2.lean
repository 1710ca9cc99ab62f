/- internal/strconv.ParseUint at base 16 over hexadecimal digits. -/
import Derived.Test.YthbhlmkgbinegaaDoorU1
namespace Go.Proofs.YthbhlmkgbinegaaDoor
open Go.RowKit
theorem hx_lo {c : UInt8} (h : isHx (c.toNat : Nat) = true) : 48 ≤ c.toNat := by simp [isHx, isDig] at h; omega
theorem hx_hi {c : UInt8} (h : isHx (c.toNat : Nat) = true) : c.toNat ≤ 102 := by simp [isHx, isDig] at h; omega
theorem hx_up {c : UInt8} (h : isHx (c.toNat : Nat) = true) (h1 : 57 < c.toNat) (h2 : c.toNat < 97) : 65 ≤ c.toNat ∧ c.toNat ≤ 70 := by simp [isHx, isDig] at h; omega
set_option maxRecDepth 100000 in
set_option maxHeartbeats 2000000 in
theorem pu16 (t : ByteArray) (hne : t.size ≠ 0) (hmax : t.size ≤ 20000) (hd : ∀ c ∈ t.data.toList, isHx (c.toNat : Nat) = true) (w : World) :
    Calls Tryd.prog 63 #[.string t, .int .i64 16, .int .i64 64] w fun e w' => e = .returned (uTup (pU 16 0 t.data.toList)) ∧ Lib.bytesWorld w 5 t = w' := by
  have hemp := bytes_ne hne
  have hcv := Lib.run_convert_string_bytes (P := Tryd.prog) w 9 53 5 t (u := .string) Tryd.underlying9 Tryd.underlying53 Tryd.underlying5
  have hB : ∀ j, j < t.size → (Lib.bytesWorld w 5 t).cell? ⟨w.heap.size, j, none⟩ = some (.int .u8 (t.data.toList.getD j 0).toNat) := fun j hj => Lib.bytesWorld_cell w 5 t j hj
  obtain ⟨W1, hW1⟩ : ∃ W1, W1 = Lib.bytesWorld w 5 t := ⟨_, rfl⟩
  rw [← hW1] at hcv hB ⊢
  clear hW1
  obtain ⟨bs, hL⟩ : ∃ bs, bs = t.data.toList := ⟨_, rfl⟩
  have hLn : bs.length = t.size := by rw [hL]; simp
  rw [← hL] at hB hd ⊢
  clear hL
  have HDg := Lib.hid hd
  clear hd
  have hmv : IntKind.u64.wrap (IntKind.u64.wrap 18446744073709551616 - 1) = 18446744073709551615 := by
    rw [IntKind.wrap_u64, IntKind.wrap_u64]
    decide
  go_enter Tryd.func63, Tryd.ntmps63
  go_wp2
  go_loop [12, 13, 101] (fun vu vn vi => ∃ (k acc : Nat) (a : Int), vu = .bool false ∧ vn = .int .u64 a ∧ vi = .int .i64 k ∧ k ≤ t.size ∧ Hid (a = (acc : Int) ∧ acc < 18446744073709551616 ∧ pU 16 0 bs = pU 16 acc (bs.drop k)))
    (fun _ _ vi => t.size - (intOf vi).toNat)
  case atStart => exact ⟨0, 0, 0, rfl, rfl, rfl, by omega, rfl, by omega, rfl⟩
  case round =>
    obtain ⟨k, acc, a, rfl, rfl, rfl, hk, hh⟩ := hrel
    obtain ⟨ha, hacc, hdec⟩ := hh.out
    clear hh
    have a0 : 0 ≤ a := by omega
    have a1 : a < 18446744073709551616 := by omega
    by_cases hkn : k < t.size
    · have hc := hB k hkn
      have hdrop : bs.drop k = bs[k]'(by omega) :: bs.drop (k + 1) := List.drop_eq_getElem_cons (by omega)
      have hget : bs.getD k 0 = bs[k]'(by omega) := by simp [List.getD, List.getElem?_eq_getElem (show k < bs.length by omega)]
      have hdig := HDg.out (bs[k]'(by omega)) (List.getElem_mem _)
      rw [hdrop] at hdec
      rw [hget] at hc
      generalize bs[k]'(by omega) = c at hc hdec hdig
      have hc256 : c.toNat < 256 := c.toNat_lt
      clear hB hdrop hget HDg
      by_cases h9 : c.toNat ≤ 57
      · have hd0 : 48 ≤ c.toNat := hx_lo hdig
        have hdv : digV c.toNat = c.toNat - 48 := by simp [digV, h9]
        clear hdig
        by_cases hcut : 1152921504606846976 ≤ acc
        · have hF : pU 16 acc (c :: bs.drop (k + 1)) = none := by simp only [pU, hdv]; rw [if_pos (by omega)]
          rw [hF] at hdec
          have icut : 1152921504606846976 ≤ a := by omega
          clear hcut hacc hF ha hdv
          go_wp2
          go_ret2
          first | exact ⟨rfl, rfl⟩ | exact ⟨by rw [hdec]; rfl, rfl⟩
        · have hF : pU 16 acc (c :: bs.drop (k + 1)) = pU 16 (acc * 16 + (c.toNat - 48)) (bs.drop (k + 1)) := by simp only [pU, hdv]; rw [if_neg (by omega)]
          have HN : Hid (a * 16 + ((c.toNat : Int) - 48) = ((acc * 16 + (c.toNat - 48) : Nat) : Int) ∧ acc * 16 + (c.toNat - 48) < 18446744073709551616 ∧ pU 16 0 bs = pU 16 (acc * 16 + (c.toNat - 48)) (bs.drop (k + 1))) := Lib.hid ⟨by omega, by omega, hdec.trans hF⟩
          have icut : a < 1152921504606846976 := by omega
          have iov : a * 16 + ((c.toNat : Int) - 48) < 18446744073709551616 := by omega
          clear hcut hacc hF hdec ha hdv
          go_wp2
          refine ⟨⟨k + 1, acc * 16 + (c.toNat - 48), a * 16 + ((c.toNat : Int) - 48), rfl, (by first | rfl | (congr 1; omega)), (by first | rfl | (congr 1; omega)), by omega, HN⟩, by simp [intOf]; omega⟩
      · by_cases hlo : 97 ≤ c.toNat
        · have hd1 : c.toNat ≤ 102 := hx_hi hdig
          have hdv : digV c.toNat = c.toNat - 97 + 10 := by simp [digV, h9, hlo]
          have hor := Lib.hid (or32_lo (c.toNat : Int) (by omega))
          clear hdig
          by_cases hcut : 1152921504606846976 ≤ acc
          · have hF : pU 16 acc (c :: bs.drop (k + 1)) = none := by simp only [pU, hdv]; rw [if_pos (by omega)]
            rw [hF] at hdec
            have icut : 1152921504606846976 ≤ a := by omega
            clear hcut hacc hF ha hdv
            go_wp2_with (go_at_call 70; refine (lower_is (c.toNat : Int) _ _ hor.out).mono ?_; rintro e w' ⟨rfl, rfl⟩)
            go_ret2
            first | exact ⟨rfl, rfl⟩ | exact ⟨by rw [hdec]; rfl, rfl⟩
          · have hF : pU 16 acc (c :: bs.drop (k + 1)) = pU 16 (acc * 16 + (c.toNat - 97 + 10)) (bs.drop (k + 1)) := by simp only [pU, hdv]; rw [if_neg (by omega)]
            have HN : Hid (a * 16 + ((c.toNat : Int) - 97 + 10) = ((acc * 16 + (c.toNat - 97 + 10) : Nat) : Int) ∧ acc * 16 + (c.toNat - 97 + 10) < 18446744073709551616 ∧ pU 16 0 bs = pU 16 (acc * 16 + (c.toNat - 97 + 10)) (bs.drop (k + 1))) := Lib.hid ⟨by omega, by omega, hdec.trans hF⟩
            have icut : a < 1152921504606846976 := by omega
            have iov : a * 16 + ((c.toNat : Int) - 97 + 10) < 18446744073709551616 := by omega
            clear hcut hacc hF hdec ha hdv
            go_wp2_with (go_at_call 70; refine (lower_is (c.toNat : Int) _ _ hor.out).mono ?_; rintro e w' ⟨rfl, rfl⟩)
            refine ⟨⟨k + 1, acc * 16 + (c.toNat - 97 + 10), a * 16 + ((c.toNat : Int) - 97 + 10), rfl, (by first | rfl | (congr 1; omega)), (by first | rfl | (congr 1; omega)), by omega, HN⟩, by simp [intOf]; omega⟩
        · have hd1 : 65 ≤ c.toNat ∧ c.toNat ≤ 70 := hx_up hdig (by omega) (by omega)
          obtain ⟨hd1, hd2⟩ := hd1
          have hdv : digV c.toNat = c.toNat - 65 + 10 := by simp [digV, h9, hlo]
          have hor := Lib.hid (or32_up (c.toNat : Int) (by omega))
          clear hdig
          by_cases hcut : 1152921504606846976 ≤ acc
          · have hF : pU 16 acc (c :: bs.drop (k + 1)) = none := by simp only [pU, hdv]; rw [if_pos (by omega)]
            rw [hF] at hdec
            have icut : 1152921504606846976 ≤ a := by omega
            clear hcut hacc hF ha hdv
            go_wp2_with (go_at_call 70; refine (lower_is ((c.toNat : Int) + 32) _ _ hor.out).mono ?_; rintro e w' ⟨rfl, rfl⟩)
            go_ret2
            first | exact ⟨rfl, rfl⟩ | exact ⟨by rw [hdec]; rfl, rfl⟩
          · have hF : pU 16 acc (c :: bs.drop (k + 1)) = pU 16 (acc * 16 + (c.toNat - 65 + 10)) (bs.drop (k + 1)) := by simp only [pU, hdv]; rw [if_neg (by omega)]
            have HN : Hid (a * 16 + ((c.toNat : Int) + 32 - 97 + 10) = ((acc * 16 + (c.toNat - 65 + 10) : Nat) : Int) ∧ acc * 16 + (c.toNat - 65 + 10) < 18446744073709551616 ∧ pU 16 0 bs = pU 16 (acc * 16 + (c.toNat - 65 + 10)) (bs.drop (k + 1))) := Lib.hid ⟨by omega, by omega, hdec.trans hF⟩
            have icut : a < 1152921504606846976 := by omega
            have iov : a * 16 + ((c.toNat : Int) + 32 - 97 + 10) < 18446744073709551616 := by omega
            clear hcut hacc hF hdec ha hdv
            go_wp2_with (go_at_call 70; refine (lower_is ((c.toNat : Int) + 32) _ _ hor.out).mono ?_; rintro e w' ⟨rfl, rfl⟩)
            refine ⟨⟨k + 1, acc * 16 + (c.toNat - 65 + 10), a * 16 + ((c.toNat : Int) + 32 - 97 + 10), rfl, (by first | rfl | (congr 1; omega)), (by first | rfl | (congr 1; omega)), by omega, HN⟩, by simp [intOf]; omega⟩
    · have hkk : k = t.size := by omega
      subst hkk
      have hF : pU 16 acc (bs.drop t.size) = some acc := by rw [List.drop_eq_nil_of_le (by omega)]; rfl
      rw [hF] at hdec
      subst ha
      clear hacc hF a0 a1
      go_wp2
      go_ret2
      first | exact ⟨rfl, rfl⟩ | exact ⟨by rw [hdec]; rfl, rfl⟩
end Go.Proofs.YthbhlmkgbinegaaDoor
