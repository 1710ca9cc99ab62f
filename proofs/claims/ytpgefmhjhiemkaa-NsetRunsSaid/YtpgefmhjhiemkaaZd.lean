/- NsetRuns, walked. -/
import Derived.Test.YtpgefmhjhiemkaaZ6
namespace Go.Proofs.Ytpgefmhjhiemkaa
open Go.RowKit
/-- What is in: all numbers of the first k classes, and t of class k. -/
def InR (s n k t : Nat) (j : Nat) : Prop := j < n ∧ (j % s < k ∨ (j % s = k ∧ j / s < t))
def SetR (f s n k t : Nat) (E : List Int) : Prop := SetOk E ∧ ∀ x : Int, x ∈ E ↔ ∃ j : Nat, InR s n k t j ∧ x = (f : Int) + (j : Int)
theorem SetR.first (f s n : Nat) : SetR f s n 0 0 [] := ⟨SetOk.nil, fun x => ⟨fun h => (by cases h), fun ⟨j, h, _⟩ => (h.2.elim (fun h => absurd h (Nat.not_lt_zero _)) fun h => absurd h.2 (Nat.not_lt_zero _))⟩⟩
theorem SetR.add {f s n k t : Nat} {E : List Int} (h : SetR f s n k t E) (hk : k < s) (hi : k + s * t < n) (hf : f + n ≤ 1000000) :
    (addI13 E ((f : Int) + ((k + s * t : Nat) : Int))).2 = true ∧ SetR f s n k (t + 1) (addI13 E ((f : Int) + ((k + s * t : Nat) : Int))).1 := by
  have hm : (k + s * t) % s = k := by rw [Nat.add_mul_mod_self_left]; exact Nat.mod_eq_of_lt hk
  have hd : (k + s * t) / s = t := by rw [Nat.add_mul_div_left _ _ (by omega), Nat.div_eq_of_lt hk, Nat.zero_add]
  have hs : inS ((f : Int) + ((k + s * t : Nat) : Int)) := ⟨by omega, by omega⟩
  refine ⟨?_, h.1.add _, fun x => ?_⟩
  · rw [addI13_new]
    refine decide_eq_true ⟨hs, fun hx => ?_⟩
    obtain ⟨j, ⟨h1, h2⟩, h3⟩ := (h.2 _).1 hx
    obtain rfl : j = k + s * t := by omega
    rw [hm, hd] at h2
    omega
  · rw [addI13_mem, h.2]
    constructor
    · rintro (⟨j, ⟨h1, h2⟩, h3⟩ | ⟨rfl, _⟩)
      · exact ⟨j, ⟨h1, by omega⟩, h3⟩
      · exact ⟨k + s * t, ⟨hi, by rw [hm, hd]; omega⟩, rfl⟩
    · rintro ⟨j, ⟨h1, h2⟩, rfl⟩
      by_cases hj : j = k + s * t
      · subst hj
        exact .inr ⟨rfl, hs⟩
      · refine .inl ⟨j, ⟨h1, ?_⟩, rfl⟩
        rcases h2 with h2 | ⟨h2, h4⟩
        · exact .inl h2
        · refine .inr ⟨h2, ?_⟩
          rcases Nat.lt_or_ge (j / s) t with h5 | h5
          · exact h5
          · have h6 : j / s = t := by omega
            have h7 := Nat.mod_add_div j s
            rw [h2, h6] at h7
            exact absurd h7.symm hj
theorem SetR.next {f s n k t : Nat} {E : List Int} (h : SetR f s n k t E) (hi : n ≤ k + s * t) : SetR f s n (k + 1) 0 E := ⟨h.1, fun x => by
  rw [h.2]
  constructor
  · rintro ⟨j, ⟨h1, h2⟩, h3⟩
    refine ⟨j, ⟨h1, .inl ?_⟩, h3⟩
    rcases h2 with h2 | h2
    · exact Nat.lt_succ_of_lt h2
    · exact h2.1 ▸ Nat.lt_succ_self _
  · rintro ⟨j, ⟨h1, h2⟩, h3⟩
    refine ⟨j, ⟨h1, ?_⟩, h3⟩
    rcases Nat.lt_or_ge (j % s) k with h4 | h4
    · exact .inl h4
    · have h5 : j % s = k := by
        rcases h2 with h2 | h2
        · exact Nat.le_antisymm (Nat.lt_succ_iff.1 h2) h4
        · exact absurd h2.2 (Nat.not_lt_zero _)
      refine .inr ⟨h5, ?_⟩
      have h7 := Nat.mod_add_div j s
      rw [h5] at h7
      have h8 : s * (j / s) < s * t := by omega
      exact Nat.lt_of_mul_lt_mul_left h8⟩
theorem SetR.last {f s n : Nat} {E : List Int} (h : SetR f s n s 0 E) (hs : 0 < s) (hf : f + n ≤ 1000000) : E = seqI f n := by
  refine rise_ext h.1.1 (seqI_rise _ _) fun x => ?_
  rw [h.2, seqI_mem]
  constructor
  · rintro ⟨j, ⟨h1, _⟩, rfl⟩
    omega
  · rintro ⟨h1, h2⟩
    exact ⟨(x - f).toNat, ⟨by omega, .inl (Nat.mod_lt _ hs)⟩, by omega⟩
set_option maxRecDepth 100000 in
set_option maxHeartbeats 4000000 in
theorem runs_walk (f a b : Nat) (hf : f < 65536) (ha : a < 256) (hb : b < 256) (w : World) :
    Calls Try.prog 9 #[.int .u16 f, .int .u8 a, .int .u8 b] w fun e w' => e = .returned (.bool true) ∧ w.grownBy w' none := by
  go_enter Try.func9, Try.ntmps9
  go_wp2_with fail
  refine (shown_any w).mono ?_
  rintro e w1 ⟨rfl, hg⟩
  have HG1 := Lib.hid hg
  clear hg
  have HW1 := Lib.hid (Wd.first w1)
  go_wp2_with fail
  refine (wd_new HW1.out (Ls.nil w1 _) (by simp)).mono ?_
  rintro e w2 ⟨m, o2, rfl, hw, _⟩
  have HW2 := Lib.hid (show Wd w1 w2 o2 [(m, [])] from hw)
  clear hw HW1
  go_wp2_with fail
  obtain ⟨n, hn⟩ : ∃ n : Nat, n = 1 + a % 100 := ⟨_, rfl⟩
  obtain ⟨s, hs⟩ : ∃ s : Nat, s = 1 + b % 7 := ⟨_, rfl⟩
  rw [show (1 : Int) + (a : Int) % 100 = (n : Int) by omega, show (1 : Int) + (b : Int) % 7 = (s : Int) by omega]
  have hn1 : 1 ≤ n ∧ n ≤ 100 := by omega
  have hs1 : 1 ≤ s ∧ s ≤ 7 := by omega
  clear hn hs ha hb
  go_loopw [11] (fun i wr => ∃ (k : Nat) (o : Nat → Option Nat) (E : List Int), k ≤ s ∧ i = .int .i64 k ∧ SetR f s n k 0 E ∧ Wd w1 wr o [(m, E)]) (fun i _ => s - (intOf i).toNat)
  case atStart => exact ⟨0, o2, [], Nat.zero_le _, rfl, SetR.first _ _ _, HW2.out⟩
  case round =>
    obtain ⟨k, o, E, hk, rfl, hR, hW⟩ := hrel
    have HR := Lib.hid hR
    have HW := Lib.hid hW
    clear hR hW HW2
    by_cases hlt : k < s
    · go_wp2_with fail
      go_loopw [12] (fun i wr => ∃ (t j : Nat) (o : Nat → Option Nat) (E : List Int), j = k + s * t ∧ j < n + s ∧ i = .int .i64 j ∧ SetR f s n k t E ∧ Wd w1 wr o [(m, E)]) (fun i _ => n - (intOf i).toNat)
      case atStart => exact ⟨0, k, o, E, rfl, by omega, rfl, HR.out, HW.out⟩
      case round =>
        obtain ⟨t, j, o3, E3, hj, hjn, rfl, hR, hW⟩ := hrel
        have HR3 := Lib.hid hR
        have HW3 := Lib.hid hW
        have HJ := Lib.hid hj
        clear hR hW HR HW hj
        by_cases hjl : j < n
        · have hfj : IntKind.i64.wrap ((f : Int) + (j : Int)) = (f : Int) + (j : Int) := IntWalk.i64_in _ (by omega)
          have HA := Lib.hid (show (addI13 E3 ((f : Int) + (j : Int))).2 = true ∧ SetR f s n k (t + 1) (addI13 E3 ((f : Int) + (j : Int))).1 by
            have h := HR3.out.add hlt (show k + s * t < n by rw [← HJ.out]; exact hjl) (by omega)
            rw [← HJ.out] at h
            exact h)
          go_wp2_with fail
          refine (wd_add _ HW3.out (by simp)).mono ?_
          rintro e w4 ⟨rfl, o4, hw, _⟩
          rw [HA.out.1]
          have HW4 := Lib.hid hw
          clear hw hfj
          go_wp2_with fail
          go_roundw
          case rel => exact ⟨t + 1, j + s, o4, _, by rw [HJ.out, Nat.mul_succ, Nat.add_assoc], by omega, by go_num, HA.out.2, HW4.out⟩
          case measure => simp [intOf]; omega
        · go_wp2_with fail
          go_roundw
          case rel => exact ⟨k + 1, o3, E3, hlt, by go_num, HR3.out.next (by rw [← HJ.out]; omega), HW3.out⟩
          case measure => simp [intOf]; omega
    · obtain rfl : k = s := by omega
      have hE := HR.out.last (by omega) (by omega)
      subst hE
      have HS := Lib.hid (show spG none (seqI f n) = [(f : Int), (f : Int) + (n : Int) - 1] by
        obtain ⟨v, rfl⟩ : ∃ v, n = v + 1 := ⟨n - 1, by omega⟩
        rw [spG_seq]
        congr 2
        omega)
      clear HR
      go_wp2_with fail
      refine (wd_spans HW.out mem0).mono ?_
      rintro e w3 ⟨A, q, c, rfl, hL, hg⟩
      rw [HS.out] at hL
      have HL3 := Lib.hid hL
      have HW3 := Lib.hid (HW.out.keep hg)
      clear hL hg HW HS
      have hs1 : IntKind.i64.wrap ((f : Int) + (n : Int)) = (f : Int) + (n : Int) := IntWalk.i64_in _ (by omega)
      have hs2 : IntKind.i64.wrap ((f : Int) + (n : Int) - 1) = (f : Int) + (n : Int) - 1 := IntWalk.i64_in _ (by omega)
      have hs3 : IntKind.i64.wrap ((f : Int) - 1) = (f : Int) - 1 := IntWalk.i64_in _ (by omega)
      go_wp2_with fail
      refine (Ints_any _ _ _ _ _ _ [(f : Int), (f : Int) + (n : Int) - 1] [(f : Int), (f : Int) + (n : Int) - 1] _ (HL3.out.keep (gr_alloc (grownBy_refl _ _) _)).1 (IntsAt.new w3 [(f : Int), (f : Int) + (n : Int) - 1] 3 _ 2 _ rfl rfl) (by simp)).mono ?_
      rintro e w4 ⟨rfl, hg⟩
      rw [decide_eq_true rfl]
      have HW4 := Lib.hid (HW3.out.keep (grownBy_trans (gr_alloc (grownBy_refl _ none) _) hg))
      clear hg HW3 HL3
      go_wp2_with fail
      refine (wd_len HW4.out mem0).mono ?_
      rintro e w5 ⟨rfl, hg⟩
      rw [seqI_len]
      have HW5 := Lib.hid (HW4.out.keep hg)
      clear hg HW4
      go_wp2_with fail
      refine (wd_has _ HW5.out mem0).mono ?_
      rintro e w6 ⟨rfl, hg⟩
      rw [decide_eq_false (by rw [seqI_mem]; omega)]
      have HW6 := Lib.hid (HW5.out.keep hg)
      clear hg HW5
      go_wp2_with fail
      refine (wd_has _ HW6.out mem0).mono ?_
      rintro e w7 ⟨rfl, hg⟩
      rw [decide_eq_false (by rw [seqI_mem]; omega)]
      have HW7 := Lib.hid (HW6.out.keep hg)
      clear hg HW6
      go_wp2_with fail
      go_ret
      exact ⟨rfl, grownBy_trans HG1.out HW7.out.gr⟩

end Go.Proofs.Ytpgefmhjhiemkaa
