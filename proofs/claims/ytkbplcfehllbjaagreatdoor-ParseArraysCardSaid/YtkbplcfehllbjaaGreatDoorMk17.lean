/- Merged: A7, U1, U2, U3, Shelf2, U4, U5, N1, N2, N3. -/
import Derived.Test.YtkbplcfehllbjaaGreatDoorMk16
import Derived.Lib.ConvBytes
import Derived.Laws.Strings3
import Derived.Laws.Closers25
import Derived.Laws.Closers25b
import Derived.BigCall
import Derived.BigGuard
import Derived.Shelf.LaysM
import Derived.Shelf.LaysC
import Derived.Shelf.Strconv.RangeError
import Derived.Shelf.Strconv.ToErrorRange
import Derived.Test.YtkbplcfehllbjaaGreatDoorProg
/- comment. -/
namespace Go.Proofs.YtkbplcfehllbjaaGreatDoor
open Go.RowKit
def commentR (l : List UInt8) : Int :=
  if l.getD 1 0 = 42 then (if Lib.index (l.drop 2) [42, 47] < 0 then 0 else 2 + Lib.index (l.drop 2) [42, 47] + 2)
  else (if Lib.index (l.drop 2) [10] < 0 then l.length else 2 + Lib.index (l.drop 2) [10] + 1)
theorem index_le (l p : List UInt8) : -1 ≤ Lib.index l p ∧ Lib.index l p ≤ l.length := by
  induction l with
  | nil => unfold Lib.index; split <;> simp
  | cons b l ih =>
    unfold Lib.index
    split
    · simp; omega
    · split
      · simp; omega
      · rename_i h; simp at h ⊢; omega
theorem ix_is (n : Int) (s p : ByteArray) (w : World) (hs : s.size < 4294967281) (hv : Vars w) (h : Lib.index s.data.toList p.data.toList = n) :
    Calls Tryz.prog 36 #[.string s, .string p] w fun e w' => e = .returned (.int .i64 n) ∧ w = w' := by
  obtain ⟨m, hm⟩ := hv.ml
  subst h
  exact (Tryz.strings_Index s p m w hs hm).mono fun _ _ ⟨he, hw⟩ => ⟨he, hw.symm⟩
set_option maxHeartbeats 800000 in
theorem comment_any (s : ByteArray) (w : World) (hs : s.size < 4294967281) (h2 : 2 ≤ s.size) (hv : Vars w) :
    Calls Tryz.prog 22 #[.string s] w fun e w' => e = .returned (.int .i64 (commentR s.data.toList)) ∧ w = w' := by
  have hg : s.data.toList.getD 1 0 = s[1] := by
    rw [List.getD_eq_getElem?_getD, List.getElem?_eq_getElem (by simp; omega)]; rfl
  have HV := Lib.hid hv
  clear hv
  have hsz : (s.extract 2 s.size).size = s.size - 2 := ext_size s 2
  have hdr := ext_drop s 2
  by_cases h1 : s[1] = 42
  · have c1 : (s[1].toNat : Int) = 42 := by rw [h1]; rfl
    obtain ⟨i, hi⟩ : ∃ i, Lib.index (s.data.toList.drop 2) [42, 47] = i := ⟨_, rfl⟩
    have hb := index_le (s.data.toList.drop 2) [42, 47]
    have hR : commentR s.data.toList = if i < 0 then 0 else 2 + i + 2 := by simp only [commentR, hg, h1, hi, if_true]
    rw [hi, List.length_drop, show s.data.toList.length = s.size by simp] at hb
    rw [← hdr] at hi
    have HR := Lib.hid hR
    have HI := Lib.hid hi
    clear hR hi h1 hg hdr hsz
    by_cases hneg : i < 0
    · go_enter Tryz.func22, Tryz.ntmps22
      go_wp2_with fail
      refine (ix_is i _ _ _ (by rw [ext_size]; omega) HV.out HI.out).mono ?_
      rintro e w' ⟨rfl, rfl⟩
      go_wp2_with fail
      go_ret
      exact ⟨ret_int (by rw [HR.out, if_pos hneg]), rfl⟩
    · go_enter Tryz.func22, Tryz.ntmps22
      go_wp2_with fail
      refine (ix_is i _ _ _ (by rw [ext_size]; omega) HV.out HI.out).mono ?_
      rintro e w' ⟨rfl, rfl⟩
      go_wp2_with fail
      go_ret
      exact ⟨ret_int (by rw [HR.out, if_neg (by omega)]), rfl⟩
  · have c1 : ¬ (s[1].toNat : Int) = 42 := by
      intro e; exact h1 (UInt8.toNat_inj.1 (by have : (42 : UInt8).toNat = 42 := rfl; omega))
    obtain ⟨i, hi⟩ : ∃ i, Lib.index (s.data.toList.drop 2) [10] = i := ⟨_, rfl⟩
    have hb := index_le (s.data.toList.drop 2) [10]
    have hR : commentR s.data.toList = if i < 0 then (s.data.toList.length : Int) else 2 + i + 1 := by simp only [commentR, hg, h1, hi, if_false]
    rw [hi, List.length_drop, show s.data.toList.length = s.size by simp] at hb
    rw [show s.data.toList.length = s.size by simp] at hR
    rw [← hdr] at hi
    have HR := Lib.hid hR
    have HI := Lib.hid hi
    clear hR hi h1 hg hdr hsz
    by_cases hneg : i < 0
    · go_enter Tryz.func22, Tryz.ntmps22
      go_wp2_with fail
      refine (ix_is i _ _ _ (by rw [ext_size]; omega) HV.out HI.out).mono ?_
      rintro e w' ⟨rfl, rfl⟩
      go_wp2_with fail
      go_ret
      exact ⟨ret_int (by rw [HR.out, if_pos hneg]), rfl⟩
    · go_enter Tryz.func22, Tryz.ntmps22
      go_wp2_with fail
      refine (ix_is i _ _ _ (by rw [ext_size]; omega) HV.out HI.out).mono ?_
      rintro e w' ⟨rfl, rfl⟩
      go_wp2_with fail
      go_ret
      exact ⟨ret_int (by rw [HR.out, if_neg (by omega)]), rfl⟩
end Go.Proofs.YtkbplcfehllbjaaGreatDoor
/- internal/strconv.ParseUint at base 10 and 16 over digits. -/
namespace Go.Proofs.YtkbplcfehllbjaaGreatDoor
open Go.RowKit
def pU (base : Nat) : Nat → List UInt8 → Option Nat
  | acc, [] => some acc
  | acc, c :: l => if 18446744073709551616 ≤ acc * base + digV c.toNat then none else pU base (acc * base + digV c.toNat) l
theorem bytes_ne {s : ByteArray} (h0 : s.size ≠ 0) : s.toList.isEmpty = false := by
  rw [ByteArray.toList_eq, Bool.eq_false_iff]; intro e; rw [List.isEmpty_iff] at e
  have : s.data.toList.length = s.size := by simp
  rw [e] at this; simp at this; omega
theorem lower_any (c : Int) (w : World) :
    Calls Tryz.prog 83 #[.int .u8 c] w fun e w' => e = .returned (.int .u8 (bits .or .u8 c 32)) ∧ w = w' := by
  go_enter Tryz.func83, Tryz.ntmps83
  go_wp2
  go_ret
  exact ⟨rfl, rfl⟩
theorem or32_up (c : Int) (h : 65 ≤ c ∧ c ≤ 70) : bits .or .u8 c 32 = c + 32 := by
  have : c = 65 ∨ c = 66 ∨ c = 67 ∨ c = 68 ∨ c = 69 ∨ c = 70 := by omega
  rcases this with h | h | h | h | h | h <;> subst h <;> decide
theorem or32_lo (c : Int) (h : 97 ≤ c ∧ c ≤ 102) : bits .or .u8 c 32 = c := by
  have : c = 97 ∨ c = 98 ∨ c = 99 ∨ c = 100 ∨ c = 101 ∨ c = 102 := by omega
  rcases this with h | h | h | h | h | h <;> subst h <;> decide
theorem lower_is (r c : Int) (w : World) (h : bits .or .u8 c 32 = r) :
    Calls Tryz.prog 83 #[.int .u8 c] w fun e w' => e = .returned (.int .u8 r) ∧ w = w' := by
  subst h; exact lower_any c w
/-- What ParseUint hands back: the number, or the greatest one and ErrRange. -/
def uTup : Option Nat → Value
  | some n => .tuple #[.int .u64 n, .nilIface]
  | none => .tuple #[.int .u64 18446744073709551615, .iface 97 (.int .i64 1)]
set_option maxRecDepth 100000 in
set_option maxHeartbeats 2000000 in
theorem pu10 (t : ByteArray) (hne : t.size ≠ 0) (hmax : t.size ≤ 20000) (hd : ∀ c ∈ t.data.toList, 48 ≤ c.toNat ∧ c.toNat ≤ 57) (w : World) :
    Calls Tryz.prog 63 #[.string t, .int .i64 10, .int .i64 64] w fun e w' => e = .returned (uTup (pU 10 0 t.data.toList)) ∧ Lib.bytesWorld w 5 t = w' := by
  have hemp := bytes_ne hne
  have hcv := Lib.run_convert_string_bytes (P := Tryz.prog) w 9 44 5 t (u := .string) Tryz.underlying9 Tryz.underlying44 Tryz.underlying5
  have hB : ∀ j, j < t.size → (Lib.bytesWorld w 5 t).cell? ⟨w.heap.size, j, none⟩ = some (.int .u8 (t.data.toList.getD j 0).toNat) := fun j hj => Lib.bytesWorld_cell w 5 t j hj
  obtain ⟨W1, hW1⟩ : ∃ W1, W1 = Lib.bytesWorld w 5 t := ⟨_, rfl⟩
  rw [← hW1] at hcv hB ⊢
  clear hW1
  obtain ⟨bs, hL⟩ : ∃ bs, bs = t.data.toList := ⟨_, rfl⟩
  have hLn : bs.length = t.size := by rw [hL]; simp
  rw [← hL] at hB hd ⊢
  clear hL
  have HDg := Lib.hid hd
  clear hd
  have hmv : IntKind.u64.wrap (IntKind.u64.wrap 18446744073709551616 - 1) = 18446744073709551615 := by
    rw [IntKind.wrap_u64, IntKind.wrap_u64]
    decide
  go_enter Tryz.func63, Tryz.ntmps63
  go_wp2
  go_loop [12, 13, 101] (fun vu vn vi => ∃ (k acc : Nat) (a : Int), vu = .bool false ∧ vn = .int .u64 a ∧ vi = .int .i64 k ∧ k ≤ t.size ∧ Hid (a = (acc : Int) ∧ acc < 18446744073709551616 ∧ pU 10 0 bs = pU 10 acc (bs.drop k)))
    (fun _ _ vi => t.size - (intOf vi).toNat)
  case atStart => exact ⟨0, 0, 0, rfl, rfl, rfl, by omega, rfl, by omega, rfl⟩
  case round =>
    obtain ⟨k, acc, a, rfl, rfl, rfl, hk, hh⟩ := hrel
    obtain ⟨ha, hacc, hdec⟩ := hh.out
    clear hh
    have a0 : 0 ≤ a := by omega
    have a1 : a < 18446744073709551616 := by omega
    by_cases hkn : k < t.size
    · have hc := hB k hkn
      have hdrop : bs.drop k = bs[k]'(by omega) :: bs.drop (k + 1) := List.drop_eq_getElem_cons (by omega)
      have hget : bs.getD k 0 = bs[k]'(by omega) := by simp [List.getD, List.getElem?_eq_getElem (show k < bs.length by omega)]
      have hdig := HDg.out (bs[k]'(by omega)) (List.getElem_mem _)
      rw [hdrop] at hdec
      rw [hget] at hc
      generalize bs[k]'(by omega) = c at hc hdec hdig
      have hc256 : c.toNat < 256 := c.toNat_lt
      clear hB hdrop hget HDg
      obtain ⟨hd0, hd1⟩ := hdig
      have hdv : digV c.toNat = c.toNat - 48 := by simp [digV, hd1]
      by_cases hov : 18446744073709551616 ≤ acc * 10 + (c.toNat - 48)
      · have hF : pU 10 acc (c :: bs.drop (k + 1)) = none := by simp only [pU, hdv, if_pos hov]
        rw [hF] at hdec
        by_cases hcut : 1844674407370955162 ≤ acc
        · have icut : 1844674407370955162 ≤ a := by omega
          clear hcut hacc hF ha hdv hov
          go_wp2
          go_ret2
          first | exact ⟨rfl, rfl⟩ | exact ⟨by rw [hdec]; rfl, rfl⟩
        · have icut : a < 1844674407370955162 := by omega
          have iov : 18446744073709551616 ≤ a * 10 + ((c.toNat : Int) - 48) := by omega
          have hwr : IntKind.u64.wrap (a * 10 + ((c.toNat : Int) - 48)) = a * 10 + ((c.toNat : Int) - 48) - 18446744073709551616 := by
            rw [IntKind.wrap_u64]
            omega
          clear hcut hacc hF hov ha hdv
          go_wp2
          go_ret2
          first | exact ⟨rfl, rfl⟩ | exact ⟨by rw [hdec]; rfl, rfl⟩
      · have hF : pU 10 acc (c :: bs.drop (k + 1)) = pU 10 (acc * 10 + (c.toNat - 48)) (bs.drop (k + 1)) := by simp only [pU, hdv, if_neg hov]
        have HN : Hid (a * 10 + ((c.toNat : Int) - 48) = ((acc * 10 + (c.toNat - 48) : Nat) : Int) ∧ acc * 10 + (c.toNat - 48) < 18446744073709551616 ∧ pU 10 0 bs = pU 10 (acc * 10 + (c.toNat - 48)) (bs.drop (k + 1))) := Lib.hid ⟨by omega, by omega, hdec.trans hF⟩
        have icut : a < 1844674407370955162 := by omega
        have iov : a * 10 + ((c.toNat : Int) - 48) < 18446744073709551616 := by omega
        clear hacc hF hov hdec ha hdv
        go_wp2
        refine ⟨⟨k + 1, acc * 10 + (c.toNat - 48), a * 10 + ((c.toNat : Int) - 48), rfl, (by first | rfl | (congr 1; omega)), (by first | rfl | (congr 1; omega)), by omega, HN⟩, by simp [intOf]; omega⟩
    · have hkk : k = t.size := by omega
      subst hkk
      have hF : pU 10 acc (bs.drop t.size) = some acc := by rw [List.drop_eq_nil_of_le (by omega)]; rfl
      rw [hF] at hdec
      subst ha
      clear hacc hF a0 a1
      go_wp2
      go_ret2
      first | exact ⟨rfl, rfl⟩ | exact ⟨by rw [hdec]; rfl, rfl⟩
end Go.Proofs.YtkbplcfehllbjaaGreatDoor
/- internal/strconv.ParseUint at base 16 over hexadecimal digits. -/
namespace Go.Proofs.YtkbplcfehllbjaaGreatDoor
open Go.RowKit
theorem hx_lo {c : UInt8} (h : isHx (c.toNat : Nat) = true) : 48 ≤ c.toNat := by simp [isHx, isDig] at h; omega
theorem hx_hi {c : UInt8} (h : isHx (c.toNat : Nat) = true) : c.toNat ≤ 102 := by simp [isHx, isDig] at h; omega
theorem hx_up {c : UInt8} (h : isHx (c.toNat : Nat) = true) (h1 : 57 < c.toNat) (h2 : c.toNat < 97) : 65 ≤ c.toNat ∧ c.toNat ≤ 70 := by simp [isHx, isDig] at h; omega
set_option maxRecDepth 100000 in
set_option maxHeartbeats 2000000 in
theorem pu16 (t : ByteArray) (hne : t.size ≠ 0) (hmax : t.size ≤ 20000) (hd : ∀ c ∈ t.data.toList, isHx (c.toNat : Nat) = true) (w : World) :
    Calls Tryz.prog 63 #[.string t, .int .i64 16, .int .i64 64] w fun e w' => e = .returned (uTup (pU 16 0 t.data.toList)) ∧ Lib.bytesWorld w 5 t = w' := by
  have hemp := bytes_ne hne
  have hcv := Lib.run_convert_string_bytes (P := Tryz.prog) w 9 44 5 t (u := .string) Tryz.underlying9 Tryz.underlying44 Tryz.underlying5
  have hB : ∀ j, j < t.size → (Lib.bytesWorld w 5 t).cell? ⟨w.heap.size, j, none⟩ = some (.int .u8 (t.data.toList.getD j 0).toNat) := fun j hj => Lib.bytesWorld_cell w 5 t j hj
  obtain ⟨W1, hW1⟩ : ∃ W1, W1 = Lib.bytesWorld w 5 t := ⟨_, rfl⟩
  rw [← hW1] at hcv hB ⊢
  clear hW1
  obtain ⟨bs, hL⟩ : ∃ bs, bs = t.data.toList := ⟨_, rfl⟩
  have hLn : bs.length = t.size := by rw [hL]; simp
  rw [← hL] at hB hd ⊢
  clear hL
  have HDg := Lib.hid hd
  clear hd
  have hmv : IntKind.u64.wrap (IntKind.u64.wrap 18446744073709551616 - 1) = 18446744073709551615 := by
    rw [IntKind.wrap_u64, IntKind.wrap_u64]
    decide
  go_enter Tryz.func63, Tryz.ntmps63
  go_wp2
  go_loop [12, 13, 101] (fun vu vn vi => ∃ (k acc : Nat) (a : Int), vu = .bool false ∧ vn = .int .u64 a ∧ vi = .int .i64 k ∧ k ≤ t.size ∧ Hid (a = (acc : Int) ∧ acc < 18446744073709551616 ∧ pU 16 0 bs = pU 16 acc (bs.drop k)))
    (fun _ _ vi => t.size - (intOf vi).toNat)
  case atStart => exact ⟨0, 0, 0, rfl, rfl, rfl, by omega, rfl, by omega, rfl⟩
  case round =>
    obtain ⟨k, acc, a, rfl, rfl, rfl, hk, hh⟩ := hrel
    obtain ⟨ha, hacc, hdec⟩ := hh.out
    clear hh
    have a0 : 0 ≤ a := by omega
    have a1 : a < 18446744073709551616 := by omega
    by_cases hkn : k < t.size
    · have hc := hB k hkn
      have hdrop : bs.drop k = bs[k]'(by omega) :: bs.drop (k + 1) := List.drop_eq_getElem_cons (by omega)
      have hget : bs.getD k 0 = bs[k]'(by omega) := by simp [List.getD, List.getElem?_eq_getElem (show k < bs.length by omega)]
      have hdig := HDg.out (bs[k]'(by omega)) (List.getElem_mem _)
      rw [hdrop] at hdec
      rw [hget] at hc
      generalize bs[k]'(by omega) = c at hc hdec hdig
      have hc256 : c.toNat < 256 := c.toNat_lt
      clear hB hdrop hget HDg
      by_cases h9 : c.toNat ≤ 57
      · have hd0 : 48 ≤ c.toNat := hx_lo hdig
        have hdv : digV c.toNat = c.toNat - 48 := by simp [digV, h9]
        clear hdig
        by_cases hcut : 1152921504606846976 ≤ acc
        · have hF : pU 16 acc (c :: bs.drop (k + 1)) = none := by simp only [pU, hdv]; rw [if_pos (by omega)]
          rw [hF] at hdec
          have icut : 1152921504606846976 ≤ a := by omega
          clear hcut hacc hF ha hdv
          go_wp2
          go_ret2
          first | exact ⟨rfl, rfl⟩ | exact ⟨by rw [hdec]; rfl, rfl⟩
        · have hF : pU 16 acc (c :: bs.drop (k + 1)) = pU 16 (acc * 16 + (c.toNat - 48)) (bs.drop (k + 1)) := by simp only [pU, hdv]; rw [if_neg (by omega)]
          have HN : Hid (a * 16 + ((c.toNat : Int) - 48) = ((acc * 16 + (c.toNat - 48) : Nat) : Int) ∧ acc * 16 + (c.toNat - 48) < 18446744073709551616 ∧ pU 16 0 bs = pU 16 (acc * 16 + (c.toNat - 48)) (bs.drop (k + 1))) := Lib.hid ⟨by omega, by omega, hdec.trans hF⟩
          have icut : a < 1152921504606846976 := by omega
          have iov : a * 16 + ((c.toNat : Int) - 48) < 18446744073709551616 := by omega
          clear hcut hacc hF hdec ha hdv
          go_wp2
          refine ⟨⟨k + 1, acc * 16 + (c.toNat - 48), a * 16 + ((c.toNat : Int) - 48), rfl, (by first | rfl | (congr 1; omega)), (by first | rfl | (congr 1; omega)), by omega, HN⟩, by simp [intOf]; omega⟩
      · by_cases hlo : 97 ≤ c.toNat
        · have hd1 : c.toNat ≤ 102 := hx_hi hdig
          have hdv : digV c.toNat = c.toNat - 97 + 10 := by simp [digV, h9, hlo]
          have hor := Lib.hid (or32_lo (c.toNat : Int) (by omega))
          clear hdig
          by_cases hcut : 1152921504606846976 ≤ acc
          · have hF : pU 16 acc (c :: bs.drop (k + 1)) = none := by simp only [pU, hdv]; rw [if_pos (by omega)]
            rw [hF] at hdec
            have icut : 1152921504606846976 ≤ a := by omega
            clear hcut hacc hF ha hdv
            go_wp2_with (go_at_call 83; refine (lower_is (c.toNat : Int) _ _ hor.out).mono ?_; rintro e w' ⟨rfl, rfl⟩)
            go_ret2
            first | exact ⟨rfl, rfl⟩ | exact ⟨by rw [hdec]; rfl, rfl⟩
          · have hF : pU 16 acc (c :: bs.drop (k + 1)) = pU 16 (acc * 16 + (c.toNat - 97 + 10)) (bs.drop (k + 1)) := by simp only [pU, hdv]; rw [if_neg (by omega)]
            have HN : Hid (a * 16 + ((c.toNat : Int) - 97 + 10) = ((acc * 16 + (c.toNat - 97 + 10) : Nat) : Int) ∧ acc * 16 + (c.toNat - 97 + 10) < 18446744073709551616 ∧ pU 16 0 bs = pU 16 (acc * 16 + (c.toNat - 97 + 10)) (bs.drop (k + 1))) := Lib.hid ⟨by omega, by omega, hdec.trans hF⟩
            have icut : a < 1152921504606846976 := by omega
            have iov : a * 16 + ((c.toNat : Int) - 97 + 10) < 18446744073709551616 := by omega
            clear hcut hacc hF hdec ha hdv
            go_wp2_with (go_at_call 83; refine (lower_is (c.toNat : Int) _ _ hor.out).mono ?_; rintro e w' ⟨rfl, rfl⟩)
            refine ⟨⟨k + 1, acc * 16 + (c.toNat - 97 + 10), a * 16 + ((c.toNat : Int) - 97 + 10), rfl, (by first | rfl | (congr 1; omega)), (by first | rfl | (congr 1; omega)), by omega, HN⟩, by simp [intOf]; omega⟩
        · have hd1 : 65 ≤ c.toNat ∧ c.toNat ≤ 70 := hx_up hdig (by omega) (by omega)
          obtain ⟨hd1, hd2⟩ := hd1
          have hdv : digV c.toNat = c.toNat - 65 + 10 := by simp [digV, h9, hlo]
          have hor := Lib.hid (or32_up (c.toNat : Int) (by omega))
          clear hdig
          by_cases hcut : 1152921504606846976 ≤ acc
          · have hF : pU 16 acc (c :: bs.drop (k + 1)) = none := by simp only [pU, hdv]; rw [if_pos (by omega)]
            rw [hF] at hdec
            have icut : 1152921504606846976 ≤ a := by omega
            clear hcut hacc hF ha hdv
            go_wp2_with (go_at_call 83; refine (lower_is ((c.toNat : Int) + 32) _ _ hor.out).mono ?_; rintro e w' ⟨rfl, rfl⟩)
            go_ret2
            first | exact ⟨rfl, rfl⟩ | exact ⟨by rw [hdec]; rfl, rfl⟩
          · have hF : pU 16 acc (c :: bs.drop (k + 1)) = pU 16 (acc * 16 + (c.toNat - 65 + 10)) (bs.drop (k + 1)) := by simp only [pU, hdv]; rw [if_neg (by omega)]
            have HN : Hid (a * 16 + ((c.toNat : Int) + 32 - 97 + 10) = ((acc * 16 + (c.toNat - 65 + 10) : Nat) : Int) ∧ acc * 16 + (c.toNat - 65 + 10) < 18446744073709551616 ∧ pU 16 0 bs = pU 16 (acc * 16 + (c.toNat - 65 + 10)) (bs.drop (k + 1))) := Lib.hid ⟨by omega, by omega, hdec.trans hF⟩
            have icut : a < 1152921504606846976 := by omega
            have iov : a * 16 + ((c.toNat : Int) + 32 - 97 + 10) < 18446744073709551616 := by omega
            clear hcut hacc hF hdec ha hdv
            go_wp2_with (go_at_call 83; refine (lower_is ((c.toNat : Int) + 32) _ _ hor.out).mono ?_; rintro e w' ⟨rfl, rfl⟩)
            refine ⟨⟨k + 1, acc * 16 + (c.toNat - 65 + 10), a * 16 + ((c.toNat : Int) + 32 - 97 + 10), rfl, (by first | rfl | (congr 1; omega)), (by first | rfl | (congr 1; omega)), by omega, HN⟩, by simp [intOf]; omega⟩
    · have hkk : k = t.size := by omega
      subst hkk
      have hF : pU 16 acc (bs.drop t.size) = some acc := by rw [List.drop_eq_nil_of_le (by omega)]; rfl
      rw [hF] at hdec
      subst ha
      clear hacc hF a0 a1
      go_wp2
      go_ret2
      first | exact ⟨rfl, rfl⟩ | exact ⟨by rw [hdec]; rfl, rfl⟩
end Go.Proofs.YtkbplcfehllbjaaGreatDoor
/- strconv.ParseInt over digits. -/
namespace Go.Proofs.YtkbplcfehllbjaaGreatDoor
open Go.RowKit
theorem bytesWorld_below (w : World) (t : ByteArray) : Below w.heap.size w (Lib.bytesWorld w 5 t) :=
  ⟨rfl, rfl, rfl, by rw [Lib.bytesWorld_size]; omega, fun k hk => Lib.bytesWorld_at_old w 5 t k hk⟩
def iTup (t : TypeId) : Option Nat → Value
  | some n => if n < 9223372036854775808 then .tuple #[.int .i64 n, .nilIface] else .tuple #[.int .i64 9223372036854775807, .iface t (.int .i64 1)]
  | none => .tuple #[.int .i64 9223372036854775807, .iface t (.int .i64 1)]
set_option maxRecDepth 100000 in
set_option maxHeartbeats 2000000 in
theorem ii_ok (t : ByteArray) (base : Int) (n : Nat) (a : Int) (ha : a = n) (hn : n < 9223372036854775808) (h0 : 0 < t.size) (hc : 48 ≤ (t[0].toNat : Int)) (w : World)
    (hcall : Calls Tryz.prog 63 #[.string t, .int .i64 base, .int .i64 64] w fun e w' => e = .returned (.tuple #[.int .u64 a, .nilIface]) ∧ Lib.bytesWorld w 5 t = w') :
    Calls Tryz.prog 48 #[.string t, .int .i64 base, .int .i64 64] w fun e w' => e = .returned (.tuple #[.int .i64 a, .nilIface]) ∧ Lib.bytesWorld w 5 t = w' := by
  have hemp := bytes_ne (s := t) (by omega)
  have a0 : 0 ≤ a := by omega
  have a1 : a < 9223372036854775808 := by omega
  have HC := Lib.hid hcall
  clear hcall ha hn
  go_enter Tryz.func48, Tryz.ntmps48
  go_wp2_with fail
  refine (HC.out).mono ?_
  rintro e w' ⟨rfl, rfl⟩
  go_wp2_with fail
  go_ret2
  exact ⟨rfl, rfl⟩
set_option maxRecDepth 100000 in
set_option maxHeartbeats 2000000 in
theorem ii_big (t : ByteArray) (base : Int) (a : Int) (a0 : 9223372036854775808 ≤ a) (_a1 : a < 18446744073709551616) (h0 : 0 < t.size) (hc : 48 ≤ (t[0].toNat : Int)) (w : World)
    (hcall : Calls Tryz.prog 63 #[.string t, .int .i64 base, .int .i64 64] w fun e w' => e = .returned (.tuple #[.int .u64 a, .nilIface]) ∧ Lib.bytesWorld w 5 t = w') :
    Calls Tryz.prog 48 #[.string t, .int .i64 base, .int .i64 64] w fun e w' => e = .returned (.tuple #[.int .i64 9223372036854775807, .iface 97 (.int .i64 1)]) ∧ Lib.bytesWorld w 5 t = w' := by
  have hemp := bytes_ne (s := t) (by omega)
  have HC := Lib.hid hcall
  clear hcall
  go_enter Tryz.func48, Tryz.ntmps48
  go_wp2_with fail
  refine (HC.out).mono ?_
  rintro e w' ⟨rfl, rfl⟩
  go_wp2_with fail
  go_ret2
  exact ⟨rfl, rfl⟩
set_option maxRecDepth 100000 in
set_option maxHeartbeats 2000000 in
theorem ii_none (t : ByteArray) (base : Int) (h0 : 0 < t.size) (hc : 48 ≤ (t[0].toNat : Int)) (w : World)
    (hcall : Calls Tryz.prog 63 #[.string t, .int .i64 base, .int .i64 64] w fun e w' => e = .returned (.tuple #[.int .u64 18446744073709551615, .iface 97 (.int .i64 1)]) ∧ Lib.bytesWorld w 5 t = w') :
    Calls Tryz.prog 48 #[.string t, .int .i64 base, .int .i64 64] w fun e w' => e = .returned (.tuple #[.int .i64 9223372036854775807, .iface 97 (.int .i64 1)]) ∧ Lib.bytesWorld w 5 t = w' := by
  have hemp := bytes_ne (s := t) (by omega)
  have HC := Lib.hid hcall
  have hne : ∀ w, (binOp .neq 62 (.iface 97 (.int .i64 1)) (.iface 97 (.int .i64 1))).run Tryz.prog w = .ok (.bool false) w := fun w => by kernel_rfl
  clear hcall
  go_enter Tryz.func48, Tryz.ntmps48
  go_wp2_with fail
  refine (HC.out).mono ?_
  rintro e w' ⟨rfl, rfl⟩
  go_wp2_with fail
  go_ret2
  exact ⟨rfl, rfl⟩
end Go.Proofs.YtkbplcfehllbjaaGreatDoor
/- strconv's errors: the library's contracts laid in this dump's numbers. -/
namespace Go.Proofs
open Go.Shelf
def Tryz.laysM280_ren : Go.Shelf.Ren := ⟨fun | 280 => 65 | 316 => 34 | n => n, fun | 9 => 9 | 168 => 101 | 75 => 62 | 210 => 113 | 3 => 3 | 4 => 4 | 37 => 44 | 0 => 0 | 127 => 83 | 80 => 66 | 5 => 5 | n => n, fun | 16 => 4 | n => n⟩
theorem Tryz.laysM280 : Go.Proofs.LaysM.n280 Tryz.prog Tryz.laysM280_ren := {
  mixed := by kernel_rfl
  f280 := Tryz.func65.trans (congrArg some (by kernel_rfl))
  f316 := Tryz.func34.trans (congrArg some (by kernel_rfl))
  t0 := Tryz.underlying0
  a0 := Tryz.isAgg0
  z0 := Tryz.sizeOf0
  v0 := Tryz.zeroValue0
  t3 := Tryz.underlying3
  a3 := Tryz.isAgg3
  z3 := Tryz.sizeOf3
  v3 := Tryz.zeroValue3
  t4 := Tryz.underlying4
  a4 := Tryz.isAgg4
  z4 := Tryz.sizeOf4
  v4 := Tryz.zeroValue4
  t9 := Tryz.underlying9
  a9 := Tryz.isAgg9
  z9 := Tryz.sizeOf9
  v9 := Tryz.zeroValue9
  t37 := Tryz.underlying44
  a37 := Tryz.isAgg44
  z37 := Tryz.sizeOf44
  v37 := Tryz.zeroValue44
  t75 := Tryz.underlying62
  a75 := Tryz.isAgg62
  z75 := Tryz.sizeOf62
  v75 := Tryz.zeroValue62
  t127 := Tryz.underlying83
  a127 := Tryz.isAgg83
  z127 := Tryz.sizeOf83
  v127 := Tryz.zeroValue83
  t168 := Tryz.underlying101
  a168 := Tryz.isAgg101
  z168 := Tryz.sizeOf101
  v168 := Tryz.zeroValue101
  t210 := Tryz.underlying113
  a210 := Tryz.isAgg113
  z210 := Tryz.sizeOf113
  v210 := Tryz.zeroValue113
  g16 := by kernel_rfl
  t5 := Tryz.underlying5
  a5 := Tryz.isAgg5
  z5 := Tryz.sizeOf5
  v5 := Tryz.zeroValue5
  t80 := Tryz.underlying66
  a80 := Tryz.isAgg66
  z80 := Tryz.sizeOf66
  v80 := Tryz.zeroValue66
  i0 := by kernel_rfl
  i3 := by kernel_rfl
  i4 := by kernel_rfl
  i5 := by kernel_rfl
  i9 := by kernel_rfl
  i37 := by kernel_rfl
  i75 := by kernel_rfl
  i80 := by kernel_rfl
  i127 := by kernel_rfl
  i168 := by kernel_rfl
  i210 := by kernel_rfl
  m16 := by kernel_rfl }
open Go.RowKit in
/-- strconv.rangeError: '&NumError{fn, stringslite.Clone(str), ErrRange}': A POINTER TO A NEW BLOCK that holds fn, str's bytes, and what the variable ErrRange holds. Of what was there nothing has turned. (LAID: no walk: one application.) -/
theorem Tryz.strconv_rangeError (fn s : ByteArray) (ev : Value) (w : World) (hlim : s.size ≤ 281474976710656) (hv : w.cell? ⟨4, 0, none⟩ = some ev) (hev : ev = .nilIface ∨ ∃ te pe, ev = .iface te pe) :
    Calls Tryz.prog 65 #[.string fn, .string s] w fun e w' => ∃ N, e = .returned (.pointer (some ⟨N, 0, none⟩)) ∧ w.heap.size ≤ N ∧ w'.heap[N]? = some (.cells #[.string fn, .string s, ev] 113 (0, 0)) ∧ Below w.heap.size w w' := Any.strconv_rangeError Tryz.laysM280 fn s ev w hlim hv hev
def Tryz.laysC245_ren : Go.Shelf.Ren := ⟨fun | 245 => 49 | 279 => 64 | 280 => 65 | 281 => 66 | 282 => 67 | 316 => 34 | 171 => 86 | 205 => 85 | 243 => 93 | 246 => 102 | 283 => 104 | 284 => 105 | 285 => 106 | 286 => 107 | 129 => 111 | 317 => 110 | 318 => 112 | 319 => 113 | 320 => 114 | 337 => 117 | 338 => 118 | n => n, fun | 9 => 9 | 3 => 3 | 75 => 62 | 167 => 97 | 4 => 4 | 168 => 101 | 210 => 113 | 37 => 44 | 0 => 0 | 127 => 83 | 145 => 124 | 143 => 122 | 2 => 2 | 171 => 129 | 53 => 98 | 5 => 5 | 173 => 132 | 212 => 135 | 51 => 108 | 20 => 20 | 213 => 136 | 46 => 96 | 232 => 141 | 233 => 142 | 80 => 66 | n => n, fun | 15 => 3 | 16 => 4 | 17 => 5 | 18 => 6 | 19 => 7 | n => n⟩
theorem Tryz.laysC245 : Go.Proofs.LaysC.n245 Tryz.prog Tryz.laysC245_ren := {
  mixed := by kernel_rfl
  f129 := Tryz.func111.trans (congrArg some (by kernel_rfl))
  f171 := Tryz.func86.trans (congrArg some (by kernel_rfl))
  f205 := Tryz.func85.trans (congrArg some (by kernel_rfl))
  f243 := Tryz.func93.trans (congrArg some (by kernel_rfl))
  f245 := Tryz.func49.trans (congrArg some (by kernel_rfl))
  f246 := Tryz.func102.trans (congrArg some (by kernel_rfl))
  f279 := Tryz.func64.trans (congrArg some (by kernel_rfl))
  f280 := Tryz.func65.trans (congrArg some (by kernel_rfl))
  f281 := Tryz.func66.trans (congrArg some (by kernel_rfl))
  f282 := Tryz.func67.trans (congrArg some (by kernel_rfl))
  f283 := Tryz.func104.trans (congrArg some (by kernel_rfl))
  f284 := Tryz.func105.trans (congrArg some (by kernel_rfl))
  f285 := Tryz.func106.trans (congrArg some (by kernel_rfl))
  f286 := Tryz.func107.trans (congrArg some (by kernel_rfl))
  f316 := Tryz.func34.trans (congrArg some (by kernel_rfl))
  f317 := Tryz.func110.trans (congrArg some (by kernel_rfl))
  f318 := Tryz.func112.trans (congrArg some (by kernel_rfl))
  f319 := Tryz.func113.trans (congrArg some (by kernel_rfl))
  f320 := Tryz.func114.trans (congrArg some (by kernel_rfl))
  f337 := Tryz.func117.trans (congrArg some (by kernel_rfl))
  f338 := Tryz.func118.trans (congrArg some (by kernel_rfl))
  t0 := Tryz.underlying0
  a0 := Tryz.isAgg0
  z0 := Tryz.sizeOf0
  v0 := Tryz.zeroValue0
  t2 := Tryz.underlying2
  a2 := Tryz.isAgg2
  z2 := Tryz.sizeOf2
  v2 := Tryz.zeroValue2
  t3 := Tryz.underlying3
  a3 := Tryz.isAgg3
  z3 := Tryz.sizeOf3
  v3 := Tryz.zeroValue3
  t4 := Tryz.underlying4
  a4 := Tryz.isAgg4
  z4 := Tryz.sizeOf4
  v4 := Tryz.zeroValue4
  t5 := Tryz.underlying5
  a5 := Tryz.isAgg5
  z5 := Tryz.sizeOf5
  v5 := Tryz.zeroValue5
  t9 := Tryz.underlying9
  a9 := Tryz.isAgg9
  z9 := Tryz.sizeOf9
  v9 := Tryz.zeroValue9
  t20 := Tryz.underlying20
  a20 := Tryz.isAgg20
  z20 := Tryz.sizeOf20
  v20 := Tryz.zeroValue20
  t37 := Tryz.underlying44
  a37 := Tryz.isAgg44
  z37 := Tryz.sizeOf44
  v37 := Tryz.zeroValue44
  t46 := Tryz.underlying96
  a46 := Tryz.isAgg96
  z46 := Tryz.sizeOf96
  v46 := Tryz.zeroValue96
  t51 := Tryz.underlying108
  a51 := Tryz.isAgg108
  z51 := Tryz.sizeOf108
  v51 := Tryz.zeroValue108
  t53 := Tryz.underlying98
  a53 := Tryz.isAgg98
  z53 := Tryz.sizeOf98
  v53 := Tryz.zeroValue98
  t75 := Tryz.underlying62
  a75 := Tryz.isAgg62
  z75 := Tryz.sizeOf62
  v75 := Tryz.zeroValue62
  t127 := Tryz.underlying83
  a127 := Tryz.isAgg83
  z127 := Tryz.sizeOf83
  v127 := Tryz.zeroValue83
  t143 := Tryz.underlying122
  a143 := Tryz.isAgg122
  z143 := Tryz.sizeOf122
  v143 := Tryz.zeroValue122
  t145 := Tryz.underlying124
  a145 := Tryz.isAgg124
  z145 := Tryz.sizeOf124
  v145 := Tryz.zeroValue124
  t167 := Tryz.underlying97
  a167 := Tryz.isAgg97
  z167 := Tryz.sizeOf97
  v167 := Tryz.zeroValue97
  t168 := Tryz.underlying101
  a168 := Tryz.isAgg101
  z168 := Tryz.sizeOf101
  v168 := Tryz.zeroValue101
  t171 := Tryz.underlying129
  a171 := Tryz.isAgg129
  z171 := Tryz.sizeOf129
  v171 := Tryz.zeroValue129
  t173 := Tryz.underlying132
  a173 := Tryz.isAgg132
  z173 := Tryz.sizeOf132
  v173 := Tryz.zeroValue132
  t210 := Tryz.underlying113
  a210 := Tryz.isAgg113
  z210 := Tryz.sizeOf113
  v210 := Tryz.zeroValue113
  t212 := Tryz.underlying135
  a212 := Tryz.isAgg135
  z212 := Tryz.sizeOf135
  v212 := Tryz.zeroValue135
  t213 := Tryz.underlying136
  a213 := Tryz.isAgg136
  z213 := Tryz.sizeOf136
  t232 := Tryz.underlying141
  a232 := Tryz.isAgg141
  z232 := Tryz.sizeOf141
  v232 := Tryz.zeroValue141
  t233 := Tryz.underlying142
  a233 := Tryz.isAgg142
  z233 := Tryz.sizeOf142
  v233 := Tryz.zeroValue142
  g15 := by kernel_rfl
  g16 := by kernel_rfl
  g17 := by kernel_rfl
  g18 := by kernel_rfl
  g19 := by kernel_rfl
  t80 := Tryz.underlying66
  a80 := Tryz.isAgg66
  z80 := Tryz.sizeOf66
  v80 := Tryz.zeroValue66
  i0 := by kernel_rfl
  i2 := by kernel_rfl
  i3 := by kernel_rfl
  i4 := by kernel_rfl
  i5 := by kernel_rfl
  i9 := by kernel_rfl
  i20 := by kernel_rfl
  i37 := by kernel_rfl
  i46 := by kernel_rfl
  i51 := by kernel_rfl
  i53 := by kernel_rfl
  i75 := by kernel_rfl
  i80 := by kernel_rfl
  i127 := by kernel_rfl
  i143 := by kernel_rfl
  i145 := by kernel_rfl
  i167 := by kernel_rfl
  i168 := by kernel_rfl
  i171 := by kernel_rfl
  i173 := by kernel_rfl
  i210 := by kernel_rfl
  i212 := by kernel_rfl
  i232 := by kernel_rfl
  i233 := by kernel_rfl
  m15 := by kernel_rfl
  m16 := by kernel_rfl
  m17 := by kernel_rfl
  m18 := by kernel_rfl
  m19 := by kernel_rfl
  c0 := by kernel_rfl
  c2 := by kernel_rfl
  c3 := by kernel_rfl
  c4 := by kernel_rfl
  c5 := by kernel_rfl
  c9 := by kernel_rfl
  c20 := by kernel_rfl
  c37 := by kernel_rfl
  c46 := by kernel_rfl
  c51 := by kernel_rfl
  c53 := by kernel_rfl
  c75 := by kernel_rfl
  c80 := by kernel_rfl
  c127 := by kernel_rfl
  c143 := by kernel_rfl
  c145 := by kernel_rfl
  c167 := by kernel_rfl
  c168 := by kernel_rfl
  c171 := by kernel_rfl
  c173 := by kernel_rfl
  c210 := by kernel_rfl
  c212 := by kernel_rfl
  c213 := by kernel_rfl
  c232 := by kernel_rfl
  c233 := by kernel_rfl }
open Go.RowKit in
/-- strconv.toError, at the inner package's ErrRange: 'rangeError(fn, s)' as an error: A *NumError IN A NEW BLOCK. (LAID: no walk: one application.) -/
theorem Tryz.strconv_toError_range (fn s : ByteArray) (base bits : Int) (ev : Value) (w : World) (hlim : s.size ≤ 281474976710656) (hv : w.cell? ⟨4, 0, none⟩ = some ev) (hev : ev = .nilIface ∨ ∃ te pe, ev = .iface te pe) :
    Calls Tryz.prog 49 #[.string fn, .string s, .int .i64 base, .int .i64 bits, .iface 97 (.int .i64 1)] w fun e w' => ∃ N, e = .returned (.iface 101 (.pointer (some ⟨N, 0, none⟩))) ∧ w.heap.size ≤ N ∧ w'.heap[N]? = some (.cells #[.string fn, .string s, ev] 113 (0, 0)) ∧ Below w.heap.size w w' := Any.strconv_toError_range Tryz.laysC245 fn s base bits ev w hlim hv hev
end Go.Proofs
/- strconv.ParseInt over digits. -/
namespace Go.Proofs.YtkbplcfehllbjaaGreatDoor
open Go.RowKit
def Fails (w : World) (e : Ending) (w' : World) : Prop := ∃ N, e = .returned (.tuple #[.int .i64 9223372036854775807, .iface 101 (.pointer (some ⟨N, 0, none⟩))]) ∧ Below w.heap.size w w'
set_option maxHeartbeats 1000000 in
theorem pi_ok (t : ByteArray) (base a : Int) (w : World)
    (hcall : Calls Tryz.prog 48 #[.string t, .int .i64 base, .int .i64 64] w fun e w' => e = .returned (.tuple #[.int .i64 a, .nilIface]) ∧ Lib.bytesWorld w 5 t = w') :
    Calls Tryz.prog 41 #[.string t, .int .i64 base, .int .i64 64] w fun e w' => e = .returned (.tuple #[.int .i64 a, .nilIface]) ∧ Below w.heap.size w w' := by
  have HC := Lib.hid hcall
  clear hcall
  go_enter Tryz.func41, Tryz.ntmps41
  go_wp2_with fail
  refine (HC.out).mono ?_
  rintro e w' ⟨rfl, rfl⟩
  go_wp2_with fail
  go_ret2
  exact ⟨rfl, bytesWorld_below w t⟩
set_option maxHeartbeats 1000000 in
theorem pi_err (t : ByteArray) (base : Int) (hs : t.size ≤ 20000) (w : World) (hv : Vars w)
    (hcall : Calls Tryz.prog 48 #[.string t, .int .i64 base, .int .i64 64] w fun e w' => e = .returned (.tuple #[.int .i64 9223372036854775807, .iface 97 (.int .i64 1)]) ∧ Lib.bytesWorld w 5 t = w') :
    Calls Tryz.prog 41 #[.string t, .int .i64 base, .int .i64 64] w (Fails w) := by
  have HC := Lib.hid hcall
  have HV := Lib.hid (hv.below (bytesWorld_below w t) hv.size).er
  have HB := Lib.hid (bytesWorld_below w t)
  clear hcall hv
  generalize Lib.bytesWorld w 5 t = w1 at *
  obtain ⟨v, hv1, hv2⟩ := HV.out
  have HV1 := Lib.hid hv1
  have HV2 := Lib.hid hv2
  clear hv1 hv2
  go_enter Tryz.func41, Tryz.ntmps41
  go_wp2_with fail
  refine (HC.out).mono ?_
  rintro e w' ⟨rfl, rfl⟩
  go_wp2_with fail
  refine (Tryz.strconv_toError_range _ t base 64 v w1 (by omega) HV1.out HV2.out).mono ?_
  rintro e w' ⟨N, rfl, hN, _, hB⟩
  clear hN
  go_wp2_with fail
  go_ret2
  exact ⟨N, rfl, HB.out.trans (hB.mono HB.out.size)⟩
end Go.Proofs.YtkbplcfehllbjaaGreatDoor
/- strconv.ParseInt over digits: by the value. -/
namespace Go.Proofs.YtkbplcfehllbjaaGreatDoor
open Go.RowKit
def vFrom (base : Nat) (acc : Nat) (l : List UInt8) : Nat := l.foldl (fun n b => n * base + digV b.toNat) acc
theorem vFrom_ge (base : Nat) (hb : 1 ≤ base) (l : List UInt8) (acc : Nat) : acc ≤ vFrom base acc l := by
  induction l generalizing acc with
  | nil => exact Nat.le_refl _
  | cons c l ih =>
    refine Nat.le_trans ?_ (ih (acc * base + digV c.toNat))
    have := Nat.mul_le_mul_left acc hb
    omega
theorem pU_eq (base : Nat) (hb : 1 ≤ base) (l : List UInt8) (acc : Nat) (ha : acc < 18446744073709551616) : pU base acc l = if vFrom base acc l < 18446744073709551616 then some (vFrom base acc l) else none := by
  induction l generalizing acc with
  | nil => simp [pU, vFrom, ha]
  | cons c l ih =>
    have hv : vFrom base acc (c :: l) = vFrom base (acc * base + digV c.toNat) l := rfl
    rw [hv]
    unfold pU
    by_cases h : 18446744073709551616 ≤ acc * base + digV c.toNat
    · rw [if_pos h, if_neg]
      have := vFrom_ge base hb l (acc * base + digV c.toNat)
      omega
    · rw [if_neg h]
      exact ih _ (by omega)
theorem valN_eq (base : Nat) (l : List UInt8) : valN base l = vFrom base 0 l := rfl
/-- what the digits of a base are. -/
def okDig (base : Nat) (c : UInt8) : Prop := if base = 10 then 48 ≤ c.toNat ∧ c.toNat ≤ 57 else isHx (c.toNat : Nat) = true
theorem pu_any (base : Nat) (hb : base = 10 ∨ base = 16) (t : ByteArray) (hne : t.size ≠ 0) (hmax : t.size ≤ 20000) (hd : ∀ c ∈ t.data.toList, okDig base c) (w : World) :
    Calls Tryz.prog 63 #[.string t, .int .i64 base, .int .i64 64] w fun e w' => e = .returned (uTup (pU base 0 t.data.toList)) ∧ Lib.bytesWorld w 5 t = w' := by
  rcases hb with rfl | rfl
  · exact pu10 t hne hmax (fun c hc => by simpa [okDig] using hd c hc) w
  · exact pu16 t hne hmax (fun c hc => by simpa [okDig] using hd c hc) w
theorem dig_48 (base : Nat) (hb : base = 10 ∨ base = 16) (t : ByteArray) (hne : 0 < t.size) (hd : ∀ c ∈ t.data.toList, okDig base c) : 48 ≤ (t[0].toNat : Int) := by
  have := hd t[0] (by have : t.data.toList[0]'(by simpa using hne) = t[0] := rfl
                      rw [← this]; exact List.getElem_mem _)
  rcases hb with rfl | rfl
  · simp [okDig] at this; omega
  · simp only [okDig] at this
    have := hx_lo (by simpa using this)
    omega
theorem parse_ok (base : Nat) (hb : base = 10 ∨ base = 16) (t : ByteArray) (hne : t.size ≠ 0) (hmax : t.size ≤ 20000) (hd : ∀ c ∈ t.data.toList, okDig base c) (w : World)
    (hn : valN base t.data.toList < 9223372036854775808) :
    Calls Tryz.prog 41 #[.string t, .int .i64 base, .int .i64 64] w fun e w' => e = .returned (.tuple #[.int .i64 (valN base t.data.toList : Nat), .nilIface]) ∧ Below w.heap.size w w' := by
  have h1 := pu_any base hb t hne hmax hd w
  rw [pU_eq base (by omega) _ _ (by omega), ← valN_eq, if_pos (by omega)] at h1
  exact pi_ok t base _ w (ii_ok t base (valN base t.data.toList) _ rfl hn (by omega) (dig_48 base hb t (by omega) hd) w h1)
theorem parse_err (base : Nat) (hb : base = 10 ∨ base = 16) (t : ByteArray) (hne : t.size ≠ 0) (hmax : t.size ≤ 20000) (hd : ∀ c ∈ t.data.toList, okDig base c) (w : World) (hv : Vars w)
    (hn : 9223372036854775808 ≤ valN base t.data.toList) :
    Calls Tryz.prog 41 #[.string t, .int .i64 base, .int .i64 64] w (Fails w) := by
  have h1 := pu_any base hb t hne hmax hd w
  rw [pU_eq base (by omega) _ _ (by omega), ← valN_eq] at h1
  refine pi_err t base hmax w hv ?_
  by_cases h : valN base t.data.toList < 18446744073709551616
  · rw [if_pos h] at h1
    exact ii_big t base _ (by omega) (by omega) (by omega) (dig_48 base hb t (by omega) hd) w h1
  · rw [if_neg h] at h1
    exact ii_none t base (by omega) (dig_48 base hb t (by omega) hd) w h1
end Go.Proofs.YtkbplcfehllbjaaGreatDoor
/- lex.number. -/
namespace Go.Proofs.YtkbplcfehllbjaaGreatDoor
open Go.RowKit
theorem pd_is (n : Nat) (s : ByteArray) (w : World) (hs : s.size ≤ maxLen) (h : pfx isDig s.data.toList = n) :
    Calls Tryz.prog 37 #[.string s, .func (.func 25) #[] #[]] w fun e w' => e = .returned (.int .i64 n) ∧ w = w' := by
  subst h; exact prefix_dig s w hs
theorem hd_is (n : Nat) (s : ByteArray) (w : World) (hs : s.size ≤ maxLen) (h : hexD s.data.toList = n) :
    Calls Tryz.prog 40 #[.string s] w fun e w' => e = .returned (.int .i64 n) ∧ w = w' := by
  subst h; exact hexDigits_any s w hs
theorem wb_is (b : Bool) (c : Int) (w : World) (h : isWb c = b) :
    Calls Tryz.prog 38 #[.int .u8 c] w fun e w' => e = .returned (.bool b) ∧ w = w' := by
  subst h; exact isWordByte_any c w
theorem ext_mid (s : ByteArray) (a b : Nat) : (s.extract a b).data.toList = (s.data.toList.take b).drop a := by
  simp [List.extract, List.drop_take]
theorem hexD_pos {l : List UInt8} (h : 0 < hexD l) : 2 ≤ l.length ∧ hexD l ≤ pfx isHx (l.drop 2) ∧ hexD l ≤ 16 := by
  unfold hexD at h ⊢
  split
  · rename_i h1
    have := hp_len h1
    exact ⟨by simpa using this, by omega, by omega⟩
  · rename_i h1; rw [if_neg h1] at h; omega
theorem take_all (p : Int → Bool) (l : List UInt8) (n : Nat) (hn : n ≤ pfx p l) : ∀ c ∈ l.take n, p (c.toNat : Nat) = true := by
  intro c hc
  obtain ⟨i, hi, rfl⟩ := List.getElem_of_mem hc
  have hl : (l.take n).length ≤ n := List.length_take_le _ _
  rw [List.getElem_take]
  exact pfx_all p l i (by omega)
theorem getD_bytes (s : ByteArray) (n : Nat) (h : n < s.size) : s.data.toList.getD n 0 = s[n] := by
  rw [List.getD_eq_getElem?_getD, List.getElem?_eq_getElem (by simpa using h)]; rfl
theorem nR_size {s : ByteArray} {n : Nat} (h : s.size ≤ n) : numberR s.data.toList = if n < s.data.toList.length ∧ isWb ((s.data.toList.getD n 0).toNat : Nat) = true then Tk.bad 2 else numberR s.data.toList := by
  rw [if_neg]; intro ⟨h1, _⟩; simp at h1; omega
theorem bcell {W w1 : World} (hb : Below W.heap.size W w1) : (∀ b o, b < W.heap.size → w1.cell? ⟨b, o, none⟩ = W.cell? ⟨b, o, none⟩) ∧ (∀ b o, b < W.heap.size → w1.frozen? ⟨b, o, none⟩ = W.frozen? ⟨b, o, none⟩) :=
  ⟨fun b o h => hb.cell (p := ⟨b, o, none⟩) h, fun b o h => hb.frozen (p := ⟨b, o, none⟩) h⟩
theorem size_lt {w : World} {o : Obj} {w' : World} (h : Below (w.alloc o).heap.size (w.alloc o) w') : w.heap.size < w'.heap.size := by
  have := h.size
  simp at this
  omega
theorem below_trans2 {w : World} {o : Obj} {w' : World} (h : Below (w.alloc o).heap.size (w.alloc o) w') : Below w.heap.size w w' :=
  (below_new o).trans (h.mono (by simp))
set_option maxHeartbeats 1000000 in
theorem number_dec (s : ByteArray) (w : World) (hs : s.size ≤ 20000) (hv : Vars w) (n : Nat) (hn : Hid (pfx isDig s.data.toList = n)) (h0 : 0 < n) (hle : n ≤ s.size) (hc : ¬ (s[0].toNat : Int) = 48)
    (HD : Hid (∀ c ∈ ((s.data.toList.take (n)).drop 0), okDig 10 c)) (hR : Hid (numberR s.data.toList = if n < s.data.toList.length ∧ isWb ((s.data.toList.getD (n) 0).toNat : Nat) = true then Tk.bad 2
  else if 9223372036854775808 ≤ valN 10 ((s.data.toList.take (n)).drop 0) then Tk.bad 5
  else ⟨3, n, valN 10 ((s.data.toList.take (n)).drop 0), 0⟩)) :
    Calls Tryz.prog 26 #[.string s] w fun e w' => e = .returned (tokV s (numberR s.data.toList)) ∧ Below w.heap.size w w' := by
  have hs' : s.size ≤ maxLen := by unfold maxLen; omega
  have hlen : s.data.toList.length = s.size := by simp
  have hd : ∀ c ∈ (s.extract 0 (n)).data.toList, okDig 10 c := by
    rw [ext_mid]; exact HD.out
  have hne : (s.extract 0 (n)).size ≠ 0 := by rw [ByteArray.size_extract]; omega
  have hsz : (s.extract 0 (n)).size ≤ 20000 := by rw [ByteArray.size_extract]; omega
  have HDD := Lib.hid hd
  have HNE := Lib.hid hne
  have HSZ := Lib.hid hsz
  clear hd hne hsz

  have HV := Lib.hid hv
  clear hv
  rw [hlen] at hR
  have Hlen := Lib.hid hlen
  clear hlen
  by_cases hw : n < s.size ∧ isWb (s[n]?.getD 0).toNat = true
  · obtain ⟨hw1, hw2⟩ := hw
    have hw3 : isWb ((s[n]'(by omega)).toNat : Nat) = true := by
      rw [getElem?_pos s (n) (by omega)] at hw2; exact hw2
    have hR2 : numberR s.data.toList = Tk.bad 2 := by
      rw [hR.out, if_pos ⟨hw1, by rw [getD_bytes s _ (by omega)]; exact hw3⟩]
    have HR2 := Lib.hid hR2
    have HW := Lib.hid hw3
    clear hw2 hw3 hR2 hR
    go_enter Tryz.func26, Tryz.ntmps26
    go_wp2_with fail
    refine (pd_is n _ _ hs' hn).mono ?_
    rintro e w' ⟨rfl, rfl⟩
    go_wp2_with (go_at_call 38; refine (wb_is true _ _ HW.out).mono ?_; rintro e w' ⟨rfl, rfl⟩)
    exact bodyPost_ret (v := .tuple #[.agg #[.int .i64 0, .int .i64 0, .string ⟨#[]⟩, .int .i64 0], .int .i64 2]) (by simp [results, Tryz.results26, go_sem]) rfl ⟨by rw [HR2.out, tokV_bad], below_new _⟩
  · have hR1 : numberR s.data.toList = if 9223372036854775808 ≤ valN 10 ((s.data.toList.take (n)).drop 0) then Tk.bad 5
        else ⟨3, n, valN 10 ((s.data.toList.take (n)).drop 0), 0⟩ := by
      rw [hR.out, if_neg]
      intro ⟨h1, h2⟩
      exact hw ⟨h1, by rw [getElem?_pos s (n) (by omega)]; rw [getD_bytes s _ (by omega)] at h2; exact h2⟩
    have hW : ∀ (h : n < s.size), isWb ((s[n]'(by omega)).toNat : Nat) = false := by
      intro h
      rw [Bool.eq_false_iff]
      intro h2
      exact hw ⟨h, by rw [getElem?_pos s (n) (by omega)]; exact h2⟩
    have HW := Lib.hid hW
    rw [← ext_mid] at hR1
    clear hw hW hR
    by_cases hb : 9223372036854775808 ≤ valN 10 (s.extract 0 (n)).data.toList
    · rw [if_pos hb] at hR1
      have HR1 := Lib.hid hR1
      have HB := Lib.hid hb
      clear hR1 hb
      by_cases hlt : n < s.size
      · go_enter Tryz.func26, Tryz.ntmps26
        go_wp2_with fail
        refine (pd_is n _ _ hs' hn).mono ?_
        rintro e w' ⟨rfl, rfl⟩
        go_wp2_with (first | (go_at_call 38; refine (wb_is false _ _ (HW.out hlt)).mono ?_; rintro e w' ⟨rfl, rfl⟩) | (go_at_call 41; refine (parse_err 10 (by omega) _ HNE.out HSZ.out HDD.out _ (HV.out.alloc _) HB.out).mono ?_; rintro e w' ⟨N, rfl, hB⟩; have HBB := Lib.hid (below_trans2 hB); obtain ⟨hcc, hff⟩ := bcell hB; have hz := size_lt hB; clear hB))
        refine bodyPost_ret (v := .tuple #[.agg #[.int .i64 0, .int .i64 0, .string ⟨#[]⟩, .int .i64 0], .int .i64 5]) (by simp [results, Tryz.results26, go_sem, hcc]) rfl ⟨by rw [HR1.out, tokV_bad], ?_⟩
        exact (((HBB.out.setCell (Nat.le_refl _) _).setCell (Nat.le_refl _) _).setCell (Nat.le_refl _) _).setCell (Nat.le_refl _) _
      · go_enter Tryz.func26, Tryz.ntmps26
        go_wp2_with fail
        refine (pd_is n _ _ hs' hn).mono ?_
        rintro e w' ⟨rfl, rfl⟩
        go_wp2_with (go_at_call 41; refine (parse_err 10 (by omega) _ HNE.out HSZ.out HDD.out _ (HV.out.alloc _) HB.out).mono ?_; rintro e w' ⟨N, rfl, hB⟩; have HBB := Lib.hid (below_trans2 hB); obtain ⟨hcc, hff⟩ := bcell hB; have hz := size_lt hB; clear hB)
        refine bodyPost_ret (v := .tuple #[.agg #[.int .i64 0, .int .i64 0, .string ⟨#[]⟩, .int .i64 0], .int .i64 5]) (by simp [results, Tryz.results26, go_sem, hcc]) rfl ⟨by rw [HR1.out, tokV_bad], ?_⟩
        exact (((HBB.out.setCell (Nat.le_refl _) _).setCell (Nat.le_refl _) _).setCell (Nat.le_refl _) _).setCell (Nat.le_refl _) _
    · rw [if_neg hb] at hR1
      have HR1 := Lib.hid hR1
      have HB := Lib.hid (Nat.lt_of_not_le hb)
      clear hR1 hb
      by_cases hlt : n < s.size
      · go_enter Tryz.func26, Tryz.ntmps26
        go_wp2_with fail
        refine (pd_is n _ _ hs' hn).mono ?_
        rintro e w' ⟨rfl, rfl⟩
        go_wp2_with (first | (go_at_call 38; refine (wb_is false _ _ (HW.out hlt)).mono ?_; rintro e w' ⟨rfl, rfl⟩) | (go_at_call 41; refine (parse_ok 10 (by omega) _ HNE.out HSZ.out HDD.out _ HB.out).mono ?_; rintro e w' ⟨rfl, hB⟩; have HBB := Lib.hid (below_trans2 hB); obtain ⟨hcc, hff⟩ := bcell hB; have hz := size_lt hB; clear hB))
        refine bodyPost_ret (v := .tuple #[.agg #[.int .i64 3, .int .i64 0, .string (s.extract 0 (n)), .int .i64 (valN 10 (s.extract 0 (n)).data.toList : Nat)], .int .i64 0]) (by simp [results, Tryz.results26, go_sem, hcc]) rfl ⟨by rw [HR1.out, tokV], ?_⟩
        exact (((HBB.out.setCell (Nat.le_refl _) _).setCell (Nat.le_refl _) _).setCell (Nat.le_refl _) _).setCell (Nat.le_refl _) _
      · go_enter Tryz.func26, Tryz.ntmps26
        go_wp2_with fail
        refine (pd_is n _ _ hs' hn).mono ?_
        rintro e w' ⟨rfl, rfl⟩
        go_wp2_with (go_at_call 41; refine (parse_ok 10 (by omega) _ HNE.out HSZ.out HDD.out _ HB.out).mono ?_; rintro e w' ⟨rfl, hB⟩; have HBB := Lib.hid (below_trans2 hB); obtain ⟨hcc, hff⟩ := bcell hB; have hz := size_lt hB; clear hB)
        refine bodyPost_ret (v := .tuple #[.agg #[.int .i64 3, .int .i64 0, .string (s.extract 0 (n)), .int .i64 (valN 10 (s.extract 0 (n)).data.toList : Nat)], .int .i64 0]) (by simp [results, Tryz.results26, go_sem, hcc]) rfl ⟨by rw [HR1.out, tokV], ?_⟩
        exact (((HBB.out.setCell (Nat.le_refl _) _).setCell (Nat.le_refl _) _).setCell (Nat.le_refl _) _).setCell (Nat.le_refl _) _
end Go.Proofs.YtkbplcfehllbjaaGreatDoor
/- lex.number. -/
namespace Go.Proofs.YtkbplcfehllbjaaGreatDoor
open Go.RowKit
set_option maxHeartbeats 1000000 in
theorem number_hex (s : ByteArray) (w : World) (hs : s.size ≤ 20000) (hv : Vars w) (m : Nat) (hn : Hid (hexD s.data.toList = m)) (h0 : 0 < m) (hle : 2 + m ≤ s.size) (hc : (s[0].toNat : Int) = 48)
    (HD : Hid (∀ c ∈ ((s.data.toList.take (2 + m)).drop 2), okDig 16 c)) (hR : Hid (numberR s.data.toList = if 2 + m < s.data.toList.length ∧ isWb ((s.data.toList.getD (2 + m) 0).toNat : Nat) = true then Tk.bad 2
  else if 9223372036854775808 ≤ valN 16 ((s.data.toList.take (2 + m)).drop 2) then Tk.bad 5
  else ⟨3, 2 + m, valN 16 ((s.data.toList.take (2 + m)).drop 2), 0⟩)) :
    Calls Tryz.prog 26 #[.string s] w fun e w' => e = .returned (tokV s (numberR s.data.toList)) ∧ Below w.heap.size w w' := by
  have hs' : s.size ≤ maxLen := by unfold maxLen; omega
  have hlen : s.data.toList.length = s.size := by simp
  have hd : ∀ c ∈ (s.extract 2 (2 + m)).data.toList, okDig 16 c := by
    rw [ext_mid]; exact HD.out
  have hne : (s.extract 2 (2 + m)).size ≠ 0 := by rw [ByteArray.size_extract]; omega
  have hsz : (s.extract 2 (2 + m)).size ≤ 20000 := by rw [ByteArray.size_extract]; omega
  have HDD := Lib.hid hd
  have HNE := Lib.hid hne
  have HSZ := Lib.hid hsz
  clear hd hne hsz

  have HV := Lib.hid hv
  clear hv
  rw [hlen] at hR
  have Hlen := Lib.hid hlen
  clear hlen
  by_cases hw : 2 + m < s.size ∧ isWb (s[2 + m]?.getD 0).toNat = true
  · obtain ⟨hw1, hw2⟩ := hw
    have hw3 : isWb ((s[2 + m]'(by omega)).toNat : Nat) = true := by
      rw [getElem?_pos s (2 + m) (by omega)] at hw2; exact hw2
    have hR2 : numberR s.data.toList = Tk.bad 2 := by
      rw [hR.out, if_pos ⟨hw1, by rw [getD_bytes s _ (by omega)]; exact hw3⟩]
    have HR2 := Lib.hid hR2
    have HW := Lib.hid hw3
    clear hw2 hw3 hR2 hR
    go_enter Tryz.func26, Tryz.ntmps26
    go_wp2_with fail
    refine (hd_is m _ _ hs' hn).mono ?_
    rintro e w' ⟨rfl, rfl⟩
    go_wp2_with (go_at_call 38; refine (wb_is true _ _ HW.out).mono ?_; rintro e w' ⟨rfl, rfl⟩)
    exact bodyPost_ret (v := .tuple #[.agg #[.int .i64 0, .int .i64 0, .string ⟨#[]⟩, .int .i64 0], .int .i64 2]) (by simp [results, Tryz.results26, go_sem]) rfl ⟨by rw [HR2.out, tokV_bad], below_new _⟩
  · have hR1 : numberR s.data.toList = if 9223372036854775808 ≤ valN 16 ((s.data.toList.take (2 + m)).drop 2) then Tk.bad 5
        else ⟨3, 2 + m, valN 16 ((s.data.toList.take (2 + m)).drop 2), 0⟩ := by
      rw [hR.out, if_neg]
      intro ⟨h1, h2⟩
      exact hw ⟨h1, by rw [getElem?_pos s (2 + m) (by omega)]; rw [getD_bytes s _ (by omega)] at h2; exact h2⟩
    have hW : ∀ (h : 2 + m < s.size), isWb ((s[2 + m]'(by omega)).toNat : Nat) = false := by
      intro h
      rw [Bool.eq_false_iff]
      intro h2
      exact hw ⟨h, by rw [getElem?_pos s (2 + m) (by omega)]; exact h2⟩
    have HW := Lib.hid hW
    rw [← ext_mid] at hR1
    clear hw hW hR
    by_cases hb : 9223372036854775808 ≤ valN 16 (s.extract 2 (2 + m)).data.toList
    · rw [if_pos hb] at hR1
      have HR1 := Lib.hid hR1
      have HB := Lib.hid hb
      clear hR1 hb
      by_cases hlt : 2 + m < s.size
      · go_enter Tryz.func26, Tryz.ntmps26
        go_wp2_with fail
        refine (hd_is m _ _ hs' hn).mono ?_
        rintro e w' ⟨rfl, rfl⟩
        go_wp2_with (first | (go_at_call 38; refine (wb_is false _ _ (HW.out hlt)).mono ?_; rintro e w' ⟨rfl, rfl⟩) | (go_at_call 41; refine (parse_err 16 (by omega) _ HNE.out HSZ.out HDD.out _ (HV.out.alloc _) HB.out).mono ?_; rintro e w' ⟨N, rfl, hB⟩; have HBB := Lib.hid (below_trans2 hB); obtain ⟨hcc, hff⟩ := bcell hB; have hz := size_lt hB; clear hB))
        refine bodyPost_ret (v := .tuple #[.agg #[.int .i64 0, .int .i64 0, .string ⟨#[]⟩, .int .i64 0], .int .i64 5]) (by simp [results, Tryz.results26, go_sem, hcc]) rfl ⟨by rw [HR1.out, tokV_bad], ?_⟩
        exact (((HBB.out.setCell (Nat.le_refl _) _).setCell (Nat.le_refl _) _).setCell (Nat.le_refl _) _).setCell (Nat.le_refl _) _
      · go_enter Tryz.func26, Tryz.ntmps26
        go_wp2_with fail
        refine (hd_is m _ _ hs' hn).mono ?_
        rintro e w' ⟨rfl, rfl⟩
        go_wp2_with (go_at_call 41; refine (parse_err 16 (by omega) _ HNE.out HSZ.out HDD.out _ (HV.out.alloc _) HB.out).mono ?_; rintro e w' ⟨N, rfl, hB⟩; have HBB := Lib.hid (below_trans2 hB); obtain ⟨hcc, hff⟩ := bcell hB; have hz := size_lt hB; clear hB)
        refine bodyPost_ret (v := .tuple #[.agg #[.int .i64 0, .int .i64 0, .string ⟨#[]⟩, .int .i64 0], .int .i64 5]) (by simp [results, Tryz.results26, go_sem, hcc]) rfl ⟨by rw [HR1.out, tokV_bad], ?_⟩
        exact (((HBB.out.setCell (Nat.le_refl _) _).setCell (Nat.le_refl _) _).setCell (Nat.le_refl _) _).setCell (Nat.le_refl _) _
    · rw [if_neg hb] at hR1
      have HR1 := Lib.hid hR1
      have HB := Lib.hid (Nat.lt_of_not_le hb)
      clear hR1 hb
      by_cases hlt : 2 + m < s.size
      · go_enter Tryz.func26, Tryz.ntmps26
        go_wp2_with fail
        refine (hd_is m _ _ hs' hn).mono ?_
        rintro e w' ⟨rfl, rfl⟩
        go_wp2_with (first | (go_at_call 38; refine (wb_is false _ _ (HW.out hlt)).mono ?_; rintro e w' ⟨rfl, rfl⟩) | (go_at_call 41; refine (parse_ok 16 (by omega) _ HNE.out HSZ.out HDD.out _ HB.out).mono ?_; rintro e w' ⟨rfl, hB⟩; have HBB := Lib.hid (below_trans2 hB); obtain ⟨hcc, hff⟩ := bcell hB; have hz := size_lt hB; clear hB))
        refine bodyPost_ret (v := .tuple #[.agg #[.int .i64 3, .int .i64 0, .string (s.extract 0 (2 + m)), .int .i64 (valN 16 (s.extract 2 (2 + m)).data.toList : Nat)], .int .i64 0]) (by simp [results, Tryz.results26, go_sem, hcc]) rfl ⟨by rw [HR1.out, tokV], ?_⟩
        exact (((HBB.out.setCell (Nat.le_refl _) _).setCell (Nat.le_refl _) _).setCell (Nat.le_refl _) _).setCell (Nat.le_refl _) _
      · go_enter Tryz.func26, Tryz.ntmps26
        go_wp2_with fail
        refine (hd_is m _ _ hs' hn).mono ?_
        rintro e w' ⟨rfl, rfl⟩
        go_wp2_with (go_at_call 41; refine (parse_ok 16 (by omega) _ HNE.out HSZ.out HDD.out _ HB.out).mono ?_; rintro e w' ⟨rfl, hB⟩; have HBB := Lib.hid (below_trans2 hB); obtain ⟨hcc, hff⟩ := bcell hB; have hz := size_lt hB; clear hB)
        refine bodyPost_ret (v := .tuple #[.agg #[.int .i64 3, .int .i64 0, .string (s.extract 0 (2 + m)), .int .i64 (valN 16 (s.extract 2 (2 + m)).data.toList : Nat)], .int .i64 0]) (by simp [results, Tryz.results26, go_sem, hcc]) rfl ⟨by rw [HR1.out, tokV], ?_⟩
        exact (((HBB.out.setCell (Nat.le_refl _) _).setCell (Nat.le_refl _) _).setCell (Nat.le_refl _) _).setCell (Nat.le_refl _) _
end Go.Proofs.YtkbplcfehllbjaaGreatDoor
/- lex.number. -/
namespace Go.Proofs.YtkbplcfehllbjaaGreatDoor
open Go.RowKit
set_option maxHeartbeats 1000000 in
theorem number_zero (s : ByteArray) (w : World) (hs : s.size ≤ 20000) (hv : Vars w) (hn : Hid (hexD s.data.toList = 0)) (hle : 1 ≤ s.size) (hc : (s[0].toNat : Int) = 48)
    (HD : Hid (∀ c ∈ ((s.data.toList.take (1)).drop 0), okDig 10 c)) (hR : Hid (numberR s.data.toList = if 1 < s.data.toList.length ∧ isWb ((s.data.toList.getD (1) 0).toNat : Nat) = true then Tk.bad 2
  else if 9223372036854775808 ≤ valN 10 ((s.data.toList.take (1)).drop 0) then Tk.bad 5
  else ⟨3, 1, valN 10 ((s.data.toList.take (1)).drop 0), 0⟩)) :
    Calls Tryz.prog 26 #[.string s] w fun e w' => e = .returned (tokV s (numberR s.data.toList)) ∧ Below w.heap.size w w' := by
  have hs' : s.size ≤ maxLen := by unfold maxLen; omega
  have hlen : s.data.toList.length = s.size := by simp
  have hd : ∀ c ∈ (s.extract 0 (1)).data.toList, okDig 10 c := by
    rw [ext_mid]; exact HD.out
  have hne : (s.extract 0 (1)).size ≠ 0 := by rw [ByteArray.size_extract]; omega
  have hsz : (s.extract 0 (1)).size ≤ 20000 := by rw [ByteArray.size_extract]; omega
  have HDD := Lib.hid hd
  have HNE := Lib.hid hne
  have HSZ := Lib.hid hsz
  clear hd hne hsz

  have HV := Lib.hid hv
  clear hv
  rw [hlen] at hR
  have Hlen := Lib.hid hlen
  clear hlen
  by_cases hw : 1 < s.size ∧ isWb (s[1]?.getD 0).toNat = true
  · obtain ⟨hw1, hw2⟩ := hw
    have hw3 : isWb ((s[1]'(by omega)).toNat : Nat) = true := by
      rw [getElem?_pos s (1) (by omega)] at hw2; exact hw2
    have hR2 : numberR s.data.toList = Tk.bad 2 := by
      rw [hR.out, if_pos ⟨hw1, by rw [getD_bytes s _ (by omega)]; exact hw3⟩]
    have HR2 := Lib.hid hR2
    have HW := Lib.hid hw3
    clear hw2 hw3 hR2 hR
    go_enter Tryz.func26, Tryz.ntmps26
    go_wp2_with fail
    refine (hd_is 0 _ _ hs' hn).mono ?_
    rintro e w' ⟨rfl, rfl⟩
    go_wp2_with (go_at_call 38; refine (wb_is true _ _ HW.out).mono ?_; rintro e w' ⟨rfl, rfl⟩)
    exact bodyPost_ret (v := .tuple #[.agg #[.int .i64 0, .int .i64 0, .string ⟨#[]⟩, .int .i64 0], .int .i64 2]) (by simp [results, Tryz.results26, go_sem]) rfl ⟨by rw [HR2.out, tokV_bad], below_new _⟩
  · have hR1 : numberR s.data.toList = if 9223372036854775808 ≤ valN 10 ((s.data.toList.take (1)).drop 0) then Tk.bad 5
        else ⟨3, 1, valN 10 ((s.data.toList.take (1)).drop 0), 0⟩ := by
      rw [hR.out, if_neg]
      intro ⟨h1, h2⟩
      exact hw ⟨h1, by rw [getElem?_pos s (1) (by omega)]; rw [getD_bytes s _ (by omega)] at h2; exact h2⟩
    have hW : ∀ (h : 1 < s.size), isWb ((s[1]'(by omega)).toNat : Nat) = false := by
      intro h
      rw [Bool.eq_false_iff]
      intro h2
      exact hw ⟨h, by rw [getElem?_pos s (1) (by omega)]; exact h2⟩
    have HW := Lib.hid hW
    rw [← ext_mid] at hR1
    clear hw hW hR
    by_cases hb : 9223372036854775808 ≤ valN 10 (s.extract 0 (1)).data.toList
    · rw [if_pos hb] at hR1
      have HR1 := Lib.hid hR1
      have HB := Lib.hid hb
      clear hR1 hb
      by_cases hlt : 1 < s.size
      · go_enter Tryz.func26, Tryz.ntmps26
        go_wp2_with fail
        refine (hd_is 0 _ _ hs' hn).mono ?_
        rintro e w' ⟨rfl, rfl⟩
        go_wp2_with (first | (go_at_call 38; refine (wb_is false _ _ (HW.out hlt)).mono ?_; rintro e w' ⟨rfl, rfl⟩) | (go_at_call 41; refine (parse_err 10 (by omega) _ HNE.out HSZ.out HDD.out _ (HV.out.alloc _) HB.out).mono ?_; rintro e w' ⟨N, rfl, hB⟩; have HBB := Lib.hid (below_trans2 hB); obtain ⟨hcc, hff⟩ := bcell hB; have hz := size_lt hB; clear hB))
        refine bodyPost_ret (v := .tuple #[.agg #[.int .i64 0, .int .i64 0, .string ⟨#[]⟩, .int .i64 0], .int .i64 5]) (by simp [results, Tryz.results26, go_sem, hcc]) rfl ⟨by rw [HR1.out, tokV_bad], ?_⟩
        exact (((HBB.out.setCell (Nat.le_refl _) _).setCell (Nat.le_refl _) _).setCell (Nat.le_refl _) _).setCell (Nat.le_refl _) _
      · go_enter Tryz.func26, Tryz.ntmps26
        go_wp2_with fail
        refine (hd_is 0 _ _ hs' hn).mono ?_
        rintro e w' ⟨rfl, rfl⟩
        go_wp2_with (go_at_call 41; refine (parse_err 10 (by omega) _ HNE.out HSZ.out HDD.out _ (HV.out.alloc _) HB.out).mono ?_; rintro e w' ⟨N, rfl, hB⟩; have HBB := Lib.hid (below_trans2 hB); obtain ⟨hcc, hff⟩ := bcell hB; have hz := size_lt hB; clear hB)
        refine bodyPost_ret (v := .tuple #[.agg #[.int .i64 0, .int .i64 0, .string ⟨#[]⟩, .int .i64 0], .int .i64 5]) (by simp [results, Tryz.results26, go_sem, hcc]) rfl ⟨by rw [HR1.out, tokV_bad], ?_⟩
        exact (((HBB.out.setCell (Nat.le_refl _) _).setCell (Nat.le_refl _) _).setCell (Nat.le_refl _) _).setCell (Nat.le_refl _) _
    · rw [if_neg hb] at hR1
      have HR1 := Lib.hid hR1
      have HB := Lib.hid (Nat.lt_of_not_le hb)
      clear hR1 hb
      by_cases hlt : 1 < s.size
      · go_enter Tryz.func26, Tryz.ntmps26
        go_wp2_with fail
        refine (hd_is 0 _ _ hs' hn).mono ?_
        rintro e w' ⟨rfl, rfl⟩
        go_wp2_with (first | (go_at_call 38; refine (wb_is false _ _ (HW.out hlt)).mono ?_; rintro e w' ⟨rfl, rfl⟩) | (go_at_call 41; refine (parse_ok 10 (by omega) _ HNE.out HSZ.out HDD.out _ HB.out).mono ?_; rintro e w' ⟨rfl, hB⟩; have HBB := Lib.hid (below_trans2 hB); obtain ⟨hcc, hff⟩ := bcell hB; have hz := size_lt hB; clear hB))
        refine bodyPost_ret (v := .tuple #[.agg #[.int .i64 3, .int .i64 0, .string (s.extract 0 (1)), .int .i64 (valN 10 (s.extract 0 (1)).data.toList : Nat)], .int .i64 0]) (by simp [results, Tryz.results26, go_sem, hcc]) rfl ⟨by rw [HR1.out, tokV], ?_⟩
        exact (((HBB.out.setCell (Nat.le_refl _) _).setCell (Nat.le_refl _) _).setCell (Nat.le_refl _) _).setCell (Nat.le_refl _) _
      · go_enter Tryz.func26, Tryz.ntmps26
        go_wp2_with fail
        refine (hd_is 0 _ _ hs' hn).mono ?_
        rintro e w' ⟨rfl, rfl⟩
        go_wp2_with (go_at_call 41; refine (parse_ok 10 (by omega) _ HNE.out HSZ.out HDD.out _ HB.out).mono ?_; rintro e w' ⟨rfl, hB⟩; have HBB := Lib.hid (below_trans2 hB); obtain ⟨hcc, hff⟩ := bcell hB; have hz := size_lt hB; clear hB)
        refine bodyPost_ret (v := .tuple #[.agg #[.int .i64 3, .int .i64 0, .string (s.extract 0 (1)), .int .i64 (valN 10 (s.extract 0 (1)).data.toList : Nat)], .int .i64 0]) (by simp [results, Tryz.results26, go_sem, hcc]) rfl ⟨by rw [HR1.out, tokV], ?_⟩
        exact (((HBB.out.setCell (Nat.le_refl _) _).setCell (Nat.le_refl _) _).setCell (Nat.le_refl _) _).setCell (Nat.le_refl _) _
end Go.Proofs.YtkbplcfehllbjaaGreatDoor
