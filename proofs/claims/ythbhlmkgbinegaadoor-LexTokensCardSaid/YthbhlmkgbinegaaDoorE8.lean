/- The document's answer: token, at a number, a character, a sign. -/
import Derived.Test.YthbhlmkgbinegaaDoorE7
namespace Go.Proofs.YthbhlmkgbinegaaDoor
open Go.RowKit
theorem num_okE (l : List UInt8) (h : (numberR l).err = 0) : numberR l = ⟨3, (numberR l).len, (numberR l).val, 0⟩ := by
  unfold numberR at h ⊢
  split
  · rename_i e; rw [if_pos e] at h; simp [Tk.bad] at h
  · rename_i e
    rw [if_neg e] at h
    split
    · rename_i e; rw [if_pos e] at h; simp [Tk.bad] at h
    · rfl
theorem num_is (V : Value) (s : ByteArray) (w : World) (hs : s.size ≤ 20000) (h0 : 0 < s.size) (hdg : isDig (s[0].toNat : Nat) = true) (hV : numV (numberR s.data.toList) = V) :
    Calls Tryd.prog 49 #[.string s] w fun e w' => e = .returned V ∧ w = w' := by
  subst hV; exact rNum s w hs h0 hdg
set_option maxHeartbeats 4000000 in
theorem rTokNum (s : ByteArray) (w : World) (hs : s.size ≤ 20000) (h0 : 0 < s.size) (hl : isLet (s[0].toNat : Nat) = false) (hdg : isDig (s[0].toNat : Nat) = true) :
    Calls Tryd.prog 32 #[.string s] w fun e w' => TokE s (numberR s.data.toList) e ∧ Below w.heap.size w w' := by
  have hlen : s.data.toList.length = s.size := by simp
  have HL := Lib.hid hl
  have HD := Lib.hid hdg
  have hD2 := hdg
  clear hl hdg
  by_cases he : (numberR s.data.toList).err = 0
  · have hR := num_okE _ he
    have hle := (num_len s.data.toList (by rw [hd_bytes s h0]; exact hD2) (by omega) he).2
    obtain ⟨n, hn⟩ : ∃ n, (numberR s.data.toList).len = n := ⟨_, rfl⟩
    obtain ⟨vl, hvl⟩ : ∃ vl, (numberR s.data.toList).val = vl := ⟨_, rfl⟩
    rw [hn, hvl] at hR
    rw [hn, hlen] at hle
    have C : Hid (∀ w, Calls Tryd.prog 49 #[.string s] w fun e w' => e = .returned (.tuple #[.int .i64 n, .int .i64 vl, .int .i64 0]) ∧ w = w') := fun w => num_is _ s w hs h0 HD.out (by rw [hR]; rfl)
    have HR := Lib.hid hR
    clear hR he hn hvl hlen hD2
    go_enter Tryd.func32, Tryd.ntmps32
    go_wp2_with (first | (go_at_call 36; refine (rl_is false _ _ HL.out).mono ?_; rintro e w' ⟨rfl, rfl⟩) | (go_at_call 48; refine (rd_is true _ _ HD.out).mono ?_; rintro e w' ⟨rfl, rfl⟩) | (go_at_call 49; refine (C.out _).mono ?_; rintro e w' ⟨rfl, rfl⟩))
    exact bodyPost_ret (v := .tuple #[.agg #[.int .i64 3, .int .i64 0, .string (s.extract 0 n), .int .i64 vl], .int .i64 0]) (by simp [results, Tryd.results32, go_sem]) rfl ⟨by rw [HR.out]; exact tokE_ok _ _ _ _, below_new _⟩
  · have hR := num_badE _ he
    obtain ⟨er, her⟩ : ∃ er, (numberR s.data.toList).err = er := ⟨_, rfl⟩
    rw [her] at hR
    have C : Hid (∀ w, Calls Tryd.prog 49 #[.string s] w fun e w' => e = .returned (.tuple #[.int .i64 0, .int .i64 0, .int .i64 er]) ∧ w = w') := fun w => num_is _ s w hs h0 HD.out (by rw [hR]; rfl)
    have HE : Hid (er ≠ 0) := by rw [her] at he; exact he
    have HR := Lib.hid hR
    clear hR he her hlen hD2
    go_enter Tryd.func32, Tryd.ntmps32
    go_wp2_with (first | (go_at_call 36; refine (rl_is false _ _ HL.out).mono ?_; rintro e w' ⟨rfl, rfl⟩) | (go_at_call 48; refine (rd_is true _ _ HD.out).mono ?_; rintro e w' ⟨rfl, rfl⟩) | (go_at_call 49; refine (C.out _).mono ?_; rintro e w' ⟨rfl, rfl⟩))
    exact bodyPost_ret (v := .tuple #[.agg #[.int .i64 3, .int .i64 0, .string (s.extract 0 0), .int .i64 0], .int .i64 er]) (by simp [results, Tryd.results32, go_sem]) rfl ⟨by rw [HR.out]; exact Or.inr ⟨HE.out, 3, 0, _, rfl⟩, below_new _⟩
set_option maxHeartbeats 4000000 in
theorem rTokChar (s : ByteArray) (w : World) (h0 : 0 < s.size) (hl : isLet (s[0].toNat : Nat) = false) (hdg : isDig (s[0].toNat : Nat) = false) (h39 : (s[0].toNat : Int) = 39) (hs : s.size ≤ 20000) :
    Calls Tryd.prog 32 #[.string s] w fun e w' => TokE s (charR s.data.toList) e ∧ Below w.heap.size w w' := by
  have HL := Lib.hid hl
  have HD := Lib.hid hdg
  clear hl hdg
  have b39 : ((s[0].toNat : Int) == 39) = true := beq_iff_eq.2 h39
  clear h39
  by_cases h1 : s.size < 3
  · have HR := Lib.hid (charR_short s h1)
    go_enter Tryd.func32, Tryd.ntmps32
    go_wp2_with (first | (go_at_call 36; refine (rl_is false _ _ HL.out).mono ?_; rintro e w' ⟨rfl, rfl⟩) | (go_at_call 48; refine (rd_is false _ _ HD.out).mono ?_; rintro e w' ⟨rfl, rfl⟩))
    exact bodyPost_ret (v := .tuple #[.agg #[.int .i64 0, .int .i64 0, .string ⟨#[]⟩, .int .i64 0], .int .i64 2]) (by simp [results, Tryd.results32, go_sem]) rfl ⟨by rw [HR.out]; exact tokE_bad _ _ (by omega), below_new _⟩
  · have h3 : 3 ≤ s.size := by omega
    have hR := charR_long s h3
    by_cases h2 : s[2] = 39
    · have c2 : (s[2].toNat : Int) = 39 := by rw [h2]; rfl
      have hpl : isPl (s[1].toNat : Nat) = (decide (32 ≤ (s[1].toNat : Int)) && decide ((s[1].toNat : Int) ≤ 126) && (s[1].toNat : Int) != 39 && (s[1].toNat : Int) != 92) := rfl
      by_cases q1 : 32 ≤ (s[1].toNat : Int) ∧ (s[1].toNat : Int) ≤ 126 ∧ ¬ (s[1].toNat : Int) = 39 ∧ ¬ (s[1].toNat : Int) = 92
      · have h4 : isPl (s[1].toNat : Nat) = true := by rw [hpl]; simp; omega
        rw [if_pos ⟨h2, h4⟩] at hR
        have HR := Lib.hid hR
        obtain ⟨q1, q2, q3, q4⟩ := q1
        have b2 : ((s[2].toNat : Int) == 39) = true := beq_iff_eq.2 c2
        have b3 : ((s[1].toNat : Int) != 39) = true := by rw [bne_iff_ne]; exact q3
        have b4 : ((s[1].toNat : Int) != 92) = true := by rw [bne_iff_ne]; exact q4
        clear hR h2 hpl h4 c2 q3 q4
        go_enter Tryd.func32, Tryd.ntmps32
        go_wp2_with (first | (go_at_call 36; refine (rl_is false _ _ HL.out).mono ?_; rintro e w' ⟨rfl, rfl⟩) | (go_at_call 48; refine (rd_is false _ _ HD.out).mono ?_; rintro e w' ⟨rfl, rfl⟩))
        have hsz : (s.extract 0 3).size = 3 := by simp; omega
        have hwr : wrap64 (s[1].toNat : Int) = s[1].toNat := IntWalk.wrap64_in _ ⟨by omega, by have := UInt8.toNat_lt s[1]; omega⟩
        go_region
        all_goals go_wp2
        all_goals (refine bodyPost_ret (v := .tuple #[.agg #[.int .i64 3, .int .i64 0, .string (s.extract 0 3), .int .i64 (s[1].toNat : Nat)], .int .i64 0]) ?_ rfl ⟨?_, ?_⟩)
        all_goals first | (rw [HR.out]; exact tokE_ok _ _ _ _) | exact (below_new _).drew | (simp [results, Tryd.results32, go_sem]; done)
      · have h4 : isPl (s[1].toNat : Nat) = false := by rw [hpl, Bool.eq_false_iff]; simp; omega
        rw [if_neg (by rw [h4]; simp)] at hR
        have HR := Lib.hid hR
        have b2 : ((s[2].toNat : Int) == 39) = true := beq_iff_eq.2 c2
        clear hR h2 hpl h4 c2
        rcases (show (s[1].toNat : Int) < 32 ∨ (32 ≤ (s[1].toNat : Int) ∧ 126 < (s[1].toNat : Int)) ∨ (s[1].toNat : Int) = 39 ∨ (s[1].toNat : Int) = 92 by omega) with q1 | ⟨q1, q2⟩ | q1 | q1
        all_goals
          go_enter Tryd.func32, Tryd.ntmps32
          go_wp2_with (first | (go_at_call 36; refine (rl_is false _ _ HL.out).mono ?_; rintro e w' ⟨rfl, rfl⟩) | (go_at_call 48; refine (rd_is false _ _ HD.out).mono ?_; rintro e w' ⟨rfl, rfl⟩))
          exact bodyPost_ret (v := .tuple #[.agg #[.int .i64 0, .int .i64 0, .string ⟨#[]⟩, .int .i64 0], .int .i64 2]) (by simp [results, Tryd.results32, go_sem]) rfl ⟨by rw [HR.out]; exact tokE_bad _ _ (by omega), below_new _⟩
    · have c2 : ¬ (s[2].toNat : Int) = 39 := by
        intro e; exact h2 (UInt8.toNat_inj.1 (by have : (39 : UInt8).toNat = 39 := rfl; omega))
      rw [if_neg (by simp [h2])] at hR
      have HR := Lib.hid hR
      have b2 : ((s[2].toNat : Int) == 39) = false := beq_eq_false_iff_ne.2 c2
      clear hR h2 c2
      go_enter Tryd.func32, Tryd.ntmps32
      go_wp2_with (first | (go_at_call 36; refine (rl_is false _ _ HL.out).mono ?_; rintro e w' ⟨rfl, rfl⟩) | (go_at_call 48; refine (rd_is false _ _ HD.out).mono ?_; rintro e w' ⟨rfl, rfl⟩))
      exact bodyPost_ret (v := .tuple #[.agg #[.int .i64 0, .int .i64 0, .string ⟨#[]⟩, .int .i64 0], .int .i64 2]) (by simp [results, Tryd.results32, go_sem]) rfl ⟨by rw [HR.out]; exact tokE_bad _ _ (by omega), below_new _⟩
set_option maxHeartbeats 4000000 in
theorem rTokSign (s : ByteArray) (w : World) (h0 : 0 < s.size) (hl : isLet (s[0].toNat : Nat) = false) (hdg : isDig (s[0].toNat : Nat) = false) (h39 : ¬ (s[0].toNat : Int) = 39) (hs : s.size ≤ 20000) :
    Calls Tryd.prog 32 #[.string s] w fun e w' => TokE s (signR s.data.toList) e ∧ Below w.heap.size w w' := by
  have HL := Lib.hid hl
  have HD := Lib.hid hdg
  clear hl hdg
  have b39 : ((s[0].toNat : Int) == 39) = false := beq_eq_false_iff_ne.2 h39
  clear h39
  go_enter Tryd.func32, Tryd.ntmps32
  go_wp2_with (first | (go_at_call 36; refine (rl_is false _ _ HL.out).mono ?_; rintro e w' ⟨rfl, rfl⟩) | (go_at_call 48; refine (rd_is false _ _ HD.out).mono ?_; rintro e w' ⟨rfl, rfl⟩))
  refine (rSigns _).mono ?_
  rintro e w2 ⟨rfl, hrow, hb2⟩
  have HRow : Hid (StrRow w2 (w.heap.size + 1) opL) := by
    show StrRow w2 (w.heap.size + 1) opL
    simpa using hrow
  have HB2 := Lib.hid hb2
  obtain ⟨hcc, hff⟩ := bcell hb2
  have hz := size_lt hb2
  clear hrow hb2
  go_wp2_with fail
  go_loop [11] (fun i => ∃ k : Nat, k ≤ 29 ∧ i = .int .i64 k ∧ Hid (∀ j (hj : j < k) (hj2 : j < opL.length), Lib.hasPrefix s.data.toList opL[j] = false)) (fun i => 29 - (intOf i).toNat)
  case atStart => exact ⟨0, Nat.zero_le _, rfl, fun j hj => absurd hj (by omega)⟩
  case round =>
    obtain ⟨k, hk, rfl, hall⟩ := hrel
    by_cases hlt : k < 29
    · have hk2 : k < opL.length := hlt
      have hc := HRow.out k hk2
      have hb : ∃ b, Lib.hasPrefix s.data.toList opL[k] = b := ⟨_, rfl⟩
      have hsmall : opL[k].length ≤ 100 := (show ∀ o ∈ opL, o.length ≤ 100 by decide) _ (List.getElem_mem hk2)
      generalize hx : opL[k] = x at hc hb hsmall
      have hx := Lib.hid hx
      obtain ⟨b, hb⟩ := hb
      have HB := Lib.hid hb
      clear hb
      have CS : Hid (∀ w, Calls Tryd.prog 47 #[.string s, .int .i64 0, .string ⟨x.toArray⟩] w fun e w' => e = .returned (.bool b) ∧ w = w') := fun w => rStarts b s ⟨x.toArray⟩ 0 hs (by show x.toArray.size ≤ 100; simpa using hsmall) (Nat.zero_le _) w HB.out
      have hlt' : (k : Int) < 29 := by omega
      cases b with
      | true =>
        go_wp2_with (go_at_call 47; refine (CS.out _).mono ?_; rintro e w' ⟨rfl, rfl⟩)
        refine bodyPost_ret (v := .tuple #[.agg #[.int .i64 4, .int .i64 0, .string ⟨x.toArray⟩, .int .i64 0], .int .i64 0]) ?_ rfl ⟨?_, ?_⟩
        · simp [results, Tryd.results32, go_sem, hcc]
        · rw [signR_at _ k hk2 (fun j hj => hall.out j hj (by omega)) (by rw [hx.out]; exact HB.out)]
          simp only [hx.out]
          have := tokE_ok s 4 x.length 0
          rwa [pre_extract HB.out] at this
        · exact (W4_below w _ w.heap.size _ (Nat.le_refl _) 4 _ 0 (below_trans2 HB2.out))
      | false =>
        go_wp2_with (go_at_call 47; refine (CS.out _).mono ?_; rintro e w' ⟨rfl, rfl⟩)
        refine ⟨⟨k + 1, by omega, by go_num, fun j hj hj2 => ?_⟩, by simp [intOf]; omega⟩
        by_cases e : j = k
        · subst e; rw [hx.out]; exact HB.out
        · exact hall.out j (by omega) hj2
    · have hk29 : k = 29 := by omega
      go_wp2_with fail
      refine bodyPost_ret (v := .tuple #[.agg #[.int .i64 0, .int .i64 0, .string ⟨#[]⟩, .int .i64 0], .int .i64 2]) ?_ rfl ⟨?_, ?_⟩
      · simp [results, Tryd.results32, go_sem, hcc]
      · rw [signR_no _ (fun j hj => hall.out j (by have : opL.length = 29 := rfl; omega) hj)]; exact tokE_bad _ _ (by omega)
      · exact (W4_below w _ w.heap.size _ (Nat.le_refl _) 0 _ 0 (below_trans2 HB2.out))
theorem rToken (s : ByteArray) (w : World) (hs : s.size ≤ 20000) (h0 : 0 < s.size) :
    Calls Tryd.prog 32 #[.string s] w fun e w' => TokE s (tokR s.data.toList) e ∧ Below w.heap.size w w' := by
  have hh : hd s.data.toList = (s[0].toNat : Nat) := hd_bytes s h0
  unfold tokR
  rw [hh]
  cases hl : isLet (s[0].toNat : Nat) with
  | true => rw [if_pos rfl]; exact rTokWord s w hs h0 hl
  | false =>
    rw [if_neg (by simp)]
    cases hdg : isDig (s[0].toNat : Nat) with
    | true => rw [if_pos rfl]; exact rTokNum s w hs h0 hl hdg
    | false =>
      rw [if_neg (by simp)]
      by_cases h39 : (s[0].toNat : Int) = 39
      · rw [if_pos h39]; exact rTokChar s w h0 hl hdg h39 hs
      · rw [if_neg h39]; exact rTokSign s w h0 hl hdg h39 hs
end Go.Proofs.YthbhlmkgbinegaaDoor
