/- The document's answer: number. -/
import Derived.Test.YthbhlmkgbinegaaDoorE4
import Derived.Test.YthbhlmkgbinegaaDoorP9
import Derived.Test.YthbhlmkgbinegaaDoorE3
namespace Go.Proofs.YthbhlmkgbinegaaDoor
open Go.RowKit
def numV (t : Tk) : Value := .tuple #[.int .i64 t.len, .int .i64 t.val, .int .i64 t.err]
theorem run_of (n : Nat) (s : ByteArray) (w : World) (hs : s.size ≤ 20000) (h : pfx isWb s.data.toList = n) :
    Calls Tryd.prog 35 #[.string s, .int .i64 0] w fun e w' => e = .returned (.int .i64 n) ∧ w = w' := by
  subst h; exact rRun s w (by unfold maxLen; omega)
theorem rh_is (b : Bool) (c : Int) (w : World) (h : isHx c = b) : Calls Tryd.prog 56 #[.int .u8 c] w fun e w' => e = .returned (.bool b) ∧ w = w' := by
  subst h; exact rHex c w
def Val10 (t : ByteArray) (v : Value) : Prop := ∀ w, Calls Tryd.prog 57 #[.string t, .int .u64 10] w fun e w' => e = .returned v ∧ w = w'
def Val16 (t : ByteArray) (v : Value) : Prop := ∀ w, Calls Tryd.prog 57 #[.string t, .int .u64 16] w fun e w' => e = .returned v ∧ w = w'
theorem val_dec (s : ByteArray) (hs : s.size ≤ 20000) (n : Nat) (hn : n ≤ s.size) (hall : ∀ j, j < n → (h : j < s.size) → isDig (s[j].toNat : Nat) = true) : Val10 (s.extract 0 n) (valV (valN 10 (s.data.toList.take n))) := by
  intro w
  have hmid : (s.extract 0 n).data.toList = s.data.toList.take n := by rw [ext_mid]; rfl
  rw [← hmid]
  refine rVal10 _ (by simp; omega) ?_ w
  intro c hc
  rw [hmid] at hc
  obtain ⟨j, hj, rfl⟩ := List.getElem_of_mem hc
  rw [List.getElem_take]
  simp at hj
  exact hall j (by omega) (by omega)
theorem val_hex (s : ByteArray) (hs : s.size ≤ 20000) (n : Nat) (hn : n ≤ s.size) (hall : ∀ j, 2 ≤ j → j < n → (h : j < s.size) → isHx (s[j].toNat : Nat) = true) : Val16 (s.extract 2 n) (valV (valN 16 ((s.data.toList.take n).drop 2))) := by
  intro w
  have hmid : (s.extract 2 n).data.toList = (s.data.toList.take n).drop 2 := ext_mid s 2 n
  rw [← hmid]
  refine rVal16 _ (by simp; omega) ?_ w
  intro c hc
  rw [hmid] at hc
  obtain ⟨j, hj, rfl⟩ := List.getElem_of_mem hc
  rw [List.getElem_drop, List.getElem_take]
  simp at hj
  exact hall (2 + j) (by omega) (by omega) (by omega)
theorem valV_big {V : Nat} (h : 9223372036854775808 ≤ V) : valV V = .tuple #[.int .i64 0, .bool false] := by unfold valV; rw [if_neg (by omega)]
theorem valV_ok {V : Nat} (h : ¬ 9223372036854775808 ≤ V) : valV V = .tuple #[.int .i64 V, .bool true] := by unfold valV; rw [if_pos (by omega)]
set_option maxHeartbeats 8000000 in
theorem rNumDec (s : ByteArray) (w : World) (hs : s.size ≤ 20000) (h0 : 0 < s.size) (hdg : isDig (s[0].toNat : Nat) = true) (hx : Lib.hasPrefix s.data.toList [48, 120] = false) :
    Calls Tryd.prog 49 #[.string s] w fun e w' => e = .returned (numV (numberR s.data.toList)) ∧ w = w' := by
  have hl : s.data.toList.length = s.size := by simp
  have h0' : 0 < s.data.toList.length := by omega
  have hh : hd s.data.toList = (s[0].toNat : Nat) := hd_bytes s h0
  have hdg' : isDig (hd s.data.toList) = true := by rw [hh]; exact hdg
  obtain ⟨T, hT⟩ : ∃ T, numberR s.data.toList = T := ⟨_, rfl⟩
  obtain ⟨n, hn⟩ : ∃ n, pfx isWb s.data.toList = n := ⟨_, rfl⟩
  have hns : n ≤ s.size := by have := pfx_le isWb s.data.toList; omega
  have hn1 : 1 ≤ n := by have := pfx_pos isWb s.data.toList (dig_wb _ hdg') h0'; omega
  have HB : Hid (∀ k, k < n → (h : k < s.size) → isDig (s[k].toNat : Nat) = false → T = Tk.bad 2) := by
    intro k hk h hb
    rw [← hT]
    exact dec_bad hx hdg' k (by omega) (by omega) hb
  have HZ : Hid (1 < n → (s[0].toNat : Int) = 48 → T = Tk.bad 2) := by
    intro h1 h48
    rw [← hT]
    exact dec_zero hx hdg' h0' (by omega) (by rw [hh]; exact h48)
  have HO : Hid ((∀ k, k < n → (h : k < s.size) → isDig (s[k].toNat : Nat) = true) → ¬ (1 < n ∧ (s[0].toNat : Int) = 48) → T = if 9223372036854775808 ≤ valN 10 (s.data.toList.take n) then Tk.bad 5 else ⟨3, n, valN 10 (s.data.toList.take n), 0⟩) := by
    intro ha hz
    rw [← hT, dec_ok hx hdg' h0' (fun k hk hkl => ha k (by omega) (by omega)) (by rw [hn, hh]; exact hz), hn]
  have hst : (∃ _ : 1 < s.size, (s[0].toNat : Int) = 48 ∧ ¬ (s[1].toNat : Int) = 120) ∨ (1 < s.size ∧ ¬ (s[0].toNat : Int) = 48) ∨ ¬ 1 < s.size := by
    by_cases h1 : 1 < s.size
    · by_cases h48 : (s[0].toNat : Int) = 48
      · refine Or.inl ⟨h1, h48, fun h120 => ?_⟩
        have e0 : s[0] = 48 := UInt8.toNat_inj.1 (by have : (48 : UInt8).toNat = 48 := rfl; omega)
        have e1 : s[1] = 120 := UInt8.toNat_inj.1 (by have : (120 : UInt8).toNat = 120 := rfl; omega)
        have : Lib.hasPrefix s.data.toList [48, 120] = true := by
          rw [hp_take (by simp; omega), beq_iff_eq]
          apply List.ext_getElem (by simp; omega)
          intro i hi1 hi2
          simp at hi2
          rw [List.getElem_take]
          rcases (show i = 0 ∨ i = 1 by omega) with rfl | rfl
          · exact e0
          · exact e1
        rw [this] at hx; cases hx
      · exact Or.inr (Or.inl ⟨h1, h48⟩)
    · exact Or.inr (Or.inr h1)
  have HN := Lib.hid hn
  rw [hT]
  clear hx hdg' hh hT hn hl hdg
  rcases hst with ⟨h1, h48, h120⟩ | ⟨h1, h48⟩ | h1
  · have b48 : ((s[0].toNat : Int) == 48) = true := beq_iff_eq.2 h48
    have b120 : ((s[1].toNat : Int) == 120) = false := beq_eq_false_iff_ne.2 h120
    have H48 := Lib.hid h48
    clear h48 h120
    go_enter Tryd.func49, Tryd.ntmps49
    go_wp2_with (go_at_call 35; refine (run_of n s _ hs HN.out).mono ?_; rintro e w' ⟨rfl, rfl⟩)
    go_loop [8] (fun i => ∃ k : Nat, k ≤ n ∧ i = .int .i64 k ∧ Hid (∀ j, j < k → (h : j < s.size) → isDig (s[j].toNat : Nat) = true)) (fun i => n - (intOf i).toNat)
    case atStart => exact ⟨0, Nat.zero_le _, rfl, fun j hj => absurd hj (by omega)⟩
    case round =>
      obtain ⟨k, hk, rfl, hall⟩ := hrel
      by_cases hlt : k < n
      · have hks : k < s.size := by omega
        cases hd : isDig (s[k].toNat : Nat) with
        | true =>
          have HD := Lib.hid hd
          have hall2 : Hid (∀ j, j < k + 1 → (h : j < s.size) → isDig (s[j].toNat : Nat) = true) := by
            intro j hj h
            by_cases e : j = k
            · subst e; exact hd
            · exact hall.out j (by omega) h
          clear hd
          go_wp2_with (go_at_call 48; refine (rd_is true _ _ HD.out).mono ?_; rintro e w' ⟨rfl, rfl⟩)
          exact ⟨⟨k + 1, by omega, by go_num, hall2⟩, by simp [intOf]; omega⟩
        | false =>
          have HD := Lib.hid hd
          have HT := Lib.hid (HB.out k hlt hks hd)
          clear hd
          go_wp2_with (go_at_call 48; refine (rd_is false _ _ HD.out).mono ?_; rintro e w' ⟨rfl, rfl⟩)
          go_ret3
          exact ⟨by rw [HT.out]; rfl, rfl⟩
      · have hke : k = n := by omega
        subst hke
        by_cases hz1 : 1 < k
        · have HT := Lib.hid (HZ.out hz1 H48.out)
          go_wp2_with fail
          all_goals go_ret3
          all_goals exact ⟨by rw [HT.out]; rfl, rfl⟩
        · have HT := Lib.hid (HO.out (fun j hj h => hall.out j hj h) (fun h => hz1 h.1))
          by_cases hbig : 9223372036854775808 ≤ valN 10 (s.data.toList.take k)
          · have C : Hid (Val10 (s.extract 0 k) (.tuple #[.int .i64 0, .bool false])) := by
              have := val_dec s hs k hns hall.out
              rwa [valV_big hbig] at this
            have HT2 : Hid (T = Tk.bad 5) := by show _ = _; rw [HT.out, if_pos hbig]
            clear hbig
            go_wp2_with (go_at_call 57; refine (C.out _).mono ?_; rintro e w' ⟨rfl, rfl⟩)
            all_goals go_ret3
            all_goals exact ⟨by rw [HT2.out]; rfl, rfl⟩
          · obtain ⟨V, hV⟩ : ∃ V, valN 10 (s.data.toList.take k) = V := ⟨_, rfl⟩
            rw [hV] at hbig
            have C : Hid (Val10 (s.extract 0 k) (.tuple #[.int .i64 V, .bool true])) := by
              have := val_dec s hs k hns hall.out
              rwa [hV, valV_ok hbig] at this
            have HT2 : Hid (T = ⟨3, k, V, 0⟩) := by show _ = _; rw [HT.out, hV, if_neg hbig]
            clear hbig hV
            go_wp2_with (go_at_call 57; refine (C.out _).mono ?_; rintro e w' ⟨rfl, rfl⟩)
            all_goals go_ret3
            all_goals exact ⟨by rw [HT2.out]; rfl, rfl⟩
  · have b48 : ((s[0].toNat : Int) == 48) = false := beq_eq_false_iff_ne.2 h48
    have H48 : Hid (¬ (s[0].toNat : Int) = 48) := h48
    clear h48
    go_enter Tryd.func49, Tryd.ntmps49
    go_wp2_with (go_at_call 35; refine (run_of n s _ hs HN.out).mono ?_; rintro e w' ⟨rfl, rfl⟩)
    go_loop [8] (fun i => ∃ k : Nat, k ≤ n ∧ i = .int .i64 k ∧ Hid (∀ j, j < k → (h : j < s.size) → isDig (s[j].toNat : Nat) = true)) (fun i => n - (intOf i).toNat)
    case atStart => exact ⟨0, Nat.zero_le _, rfl, fun j hj => absurd hj (by omega)⟩
    case round =>
      obtain ⟨k, hk, rfl, hall⟩ := hrel
      by_cases hlt : k < n
      · have hks : k < s.size := by omega
        cases hd : isDig (s[k].toNat : Nat) with
        | true =>
          have HD := Lib.hid hd
          have hall2 : Hid (∀ j, j < k + 1 → (h : j < s.size) → isDig (s[j].toNat : Nat) = true) := by
            intro j hj h
            by_cases e : j = k
            · subst e; exact hd
            · exact hall.out j (by omega) h
          clear hd
          go_wp2_with (go_at_call 48; refine (rd_is true _ _ HD.out).mono ?_; rintro e w' ⟨rfl, rfl⟩)
          exact ⟨⟨k + 1, by omega, by go_num, hall2⟩, by simp [intOf]; omega⟩
        | false =>
          have HD := Lib.hid hd
          have HT := Lib.hid (HB.out k hlt hks hd)
          clear hd
          go_wp2_with (go_at_call 48; refine (rd_is false _ _ HD.out).mono ?_; rintro e w' ⟨rfl, rfl⟩)
          go_ret3
          exact ⟨by rw [HT.out]; rfl, rfl⟩
      · have hke : k = n := by omega
        subst hke
        have HT := Lib.hid (HO.out (fun j hj h => hall.out j hj h) (fun h => H48.out h.2))
        by_cases hz1 : 1 < k
        · have _t := True.intro
          by_cases hbig : 9223372036854775808 ≤ valN 10 (s.data.toList.take k)
          · have C : Hid (Val10 (s.extract 0 k) (.tuple #[.int .i64 0, .bool false])) := by
              have := val_dec s hs k hns hall.out
              rwa [valV_big hbig] at this
            have HT2 : Hid (T = Tk.bad 5) := by show _ = _; rw [HT.out, if_pos hbig]
            clear hbig
            go_wp2_with (go_at_call 57; refine (C.out _).mono ?_; rintro e w' ⟨rfl, rfl⟩)
            all_goals go_ret3
            all_goals exact ⟨by rw [HT2.out]; rfl, rfl⟩
          · obtain ⟨V, hV⟩ : ∃ V, valN 10 (s.data.toList.take k) = V := ⟨_, rfl⟩
            rw [hV] at hbig
            have C : Hid (Val10 (s.extract 0 k) (.tuple #[.int .i64 V, .bool true])) := by
              have := val_dec s hs k hns hall.out
              rwa [hV, valV_ok hbig] at this
            have HT2 : Hid (T = ⟨3, k, V, 0⟩) := by show _ = _; rw [HT.out, hV, if_neg hbig]
            clear hbig hV
            go_wp2_with (go_at_call 57; refine (C.out _).mono ?_; rintro e w' ⟨rfl, rfl⟩)
            all_goals go_ret3
            all_goals exact ⟨by rw [HT2.out]; rfl, rfl⟩
        · have _t := True.intro
          by_cases hbig : 9223372036854775808 ≤ valN 10 (s.data.toList.take k)
          · have C : Hid (Val10 (s.extract 0 k) (.tuple #[.int .i64 0, .bool false])) := by
              have := val_dec s hs k hns hall.out
              rwa [valV_big hbig] at this
            have HT2 : Hid (T = Tk.bad 5) := by show _ = _; rw [HT.out, if_pos hbig]
            clear hbig
            go_wp2_with (go_at_call 57; refine (C.out _).mono ?_; rintro e w' ⟨rfl, rfl⟩)
            all_goals go_ret3
            all_goals exact ⟨by rw [HT2.out]; rfl, rfl⟩
          · obtain ⟨V, hV⟩ : ∃ V, valN 10 (s.data.toList.take k) = V := ⟨_, rfl⟩
            rw [hV] at hbig
            have C : Hid (Val10 (s.extract 0 k) (.tuple #[.int .i64 V, .bool true])) := by
              have := val_dec s hs k hns hall.out
              rwa [hV, valV_ok hbig] at this
            have HT2 : Hid (T = ⟨3, k, V, 0⟩) := by show _ = _; rw [HT.out, hV, if_neg hbig]
            clear hbig hV
            go_wp2_with (go_at_call 57; refine (C.out _).mono ?_; rintro e w' ⟨rfl, rfl⟩)
            all_goals go_ret3
            all_goals exact ⟨by rw [HT2.out]; rfl, rfl⟩
  · go_enter Tryd.func49, Tryd.ntmps49
    go_wp2_with (go_at_call 35; refine (run_of n s _ hs HN.out).mono ?_; rintro e w' ⟨rfl, rfl⟩)
    go_loop [8] (fun i => ∃ k : Nat, k ≤ n ∧ i = .int .i64 k ∧ Hid (∀ j, j < k → (h : j < s.size) → isDig (s[j].toNat : Nat) = true)) (fun i => n - (intOf i).toNat)
    case atStart => exact ⟨0, Nat.zero_le _, rfl, fun j hj => absurd hj (by omega)⟩
    case round =>
      obtain ⟨k, hk, rfl, hall⟩ := hrel
      by_cases hlt : k < n
      · have hks : k < s.size := by omega
        cases hd : isDig (s[k].toNat : Nat) with
        | true =>
          have HD := Lib.hid hd
          have hall2 : Hid (∀ j, j < k + 1 → (h : j < s.size) → isDig (s[j].toNat : Nat) = true) := by
            intro j hj h
            by_cases e : j = k
            · subst e; exact hd
            · exact hall.out j (by omega) h
          clear hd
          go_wp2_with (go_at_call 48; refine (rd_is true _ _ HD.out).mono ?_; rintro e w' ⟨rfl, rfl⟩)
          exact ⟨⟨k + 1, by omega, by go_num, hall2⟩, by simp [intOf]; omega⟩
        | false =>
          have HD := Lib.hid hd
          have HT := Lib.hid (HB.out k hlt hks hd)
          clear hd
          go_wp2_with (go_at_call 48; refine (rd_is false _ _ HD.out).mono ?_; rintro e w' ⟨rfl, rfl⟩)
          go_ret3
          exact ⟨by rw [HT.out]; rfl, rfl⟩
      · have hke : k = n := by omega
        subst hke
        have hz1 : ¬ 1 < k := by omega
        have HT := Lib.hid (HO.out (fun j hj h => hall.out j hj h) (fun h => hz1 h.1))
        by_cases hbig : 9223372036854775808 ≤ valN 10 (s.data.toList.take k)
        · have C : Hid (Val10 (s.extract 0 k) (.tuple #[.int .i64 0, .bool false])) := by
            have := val_dec s hs k hns hall.out
            rwa [valV_big hbig] at this
          have HT2 : Hid (T = Tk.bad 5) := by show _ = _; rw [HT.out, if_pos hbig]
          clear hbig
          go_wp2_with (go_at_call 57; refine (C.out _).mono ?_; rintro e w' ⟨rfl, rfl⟩)
          all_goals go_ret3
          all_goals exact ⟨by rw [HT2.out]; rfl, rfl⟩
        · obtain ⟨V, hV⟩ : ∃ V, valN 10 (s.data.toList.take k) = V := ⟨_, rfl⟩
          rw [hV] at hbig
          have C : Hid (Val10 (s.extract 0 k) (.tuple #[.int .i64 V, .bool true])) := by
            have := val_dec s hs k hns hall.out
            rwa [hV, valV_ok hbig] at this
          have HT2 : Hid (T = ⟨3, k, V, 0⟩) := by show _ = _; rw [HT.out, hV, if_neg hbig]
          clear hbig hV
          go_wp2_with (go_at_call 57; refine (C.out _).mono ?_; rintro e w' ⟨rfl, rfl⟩)
          all_goals go_ret3
          all_goals exact ⟨by rw [HT2.out]; rfl, rfl⟩
set_option maxHeartbeats 8000000 in
theorem rNumHex (s : ByteArray) (w : World) (hs : s.size ≤ 20000) (hx : Lib.hasPrefix s.data.toList [48, 120] = true) :
    Calls Tryd.prog 49 #[.string s] w fun e w' => e = .returned (numV (numberR s.data.toList)) ∧ w = w' := by
  have hl : s.data.toList.length = s.size := by simp
  obtain ⟨f1, f2, f3, _, _⟩ := hex_facts hx
  obtain ⟨T, hT⟩ : ∃ T, numberR s.data.toList = T := ⟨_, rfl⟩
  obtain ⟨n, hn⟩ : ∃ n, pfx isWb s.data.toList = n := ⟨_, rfl⟩
  have hns : n ≤ s.size := by have := pfx_le isWb s.data.toList; omega
  have hn1 : 2 ≤ n := by omega
  have h1 : 1 < s.size := by omega
  have hb0 : (s[0].toNat : Int) = 48 ∧ (s[1].toNat : Int) = 120 := by
    obtain ⟨r, hr⟩ := hex_head hx
    have e0 : s.data.toList[0]'(by omega) = 48 := by simp only [hr]; rfl
    have e1 : s.data.toList[1]'(by omega) = 120 := by simp only [hr]; rfl
    have g0 : s[0] = 48 := e0
    have g1 : s[1] = 120 := e1
    exact ⟨by rw [g0]; rfl, by rw [g1]; rfl⟩
  obtain ⟨h48, h120⟩ := hb0
  have HB : Hid (∀ k, 2 ≤ k → k < n → (h : k < s.size) → isHx (s[k].toNat : Nat) = false → T = Tk.bad 2) := by
    intro k h2 hk h hb
    rw [← hT]
    exact hex_bad hx k h2 (by omega) (by omega) hb
  have HZ : Hid (n = 2 ∨ 18 < n → T = Tk.bad 2) := by
    intro h
    rw [← hT]
    exact hex_long hx (by rw [hn]; exact h)
  have HO : Hid ((∀ k, 2 ≤ k → k < n → (h : k < s.size) → isHx (s[k].toNat : Nat) = true) → 2 < n → n ≤ 18 → T = if 9223372036854775808 ≤ valN 16 ((s.data.toList.take n).drop 2) then Tk.bad 5 else ⟨3, n, valN 16 ((s.data.toList.take n).drop 2), 0⟩) := by
    intro ha h2 h18
    rw [← hT, hex_ok hx (by omega) (by omega) (fun k h2 hk hkl => ha k h2 (by omega) (by omega)), hn]
  have HN := Lib.hid hn
  rw [hT]
  clear hx f1 f3 hT hn hl
  have b48 : ((s[0].toNat : Int) == 48) = true := beq_iff_eq.2 h48
  have b120 : ((s[1].toNat : Int) == 120) = true := beq_iff_eq.2 h120
  clear h48 h120
  go_enter Tryd.func49, Tryd.ntmps49
  go_wp2_with (go_at_call 35; refine (run_of n s _ hs HN.out).mono ?_; rintro e w' ⟨rfl, rfl⟩)
  go_loop [8] (fun i => ∃ k : Nat, 2 ≤ k ∧ k ≤ n ∧ i = .int .i64 k ∧ Hid (∀ j, 2 ≤ j → j < k → (h : j < s.size) → isHx (s[j].toNat : Nat) = true)) (fun i => n - (intOf i).toNat)
  case atStart => exact ⟨2, Nat.le_refl _, hn1, rfl, fun j hj hj2 => absurd hj (by omega)⟩
  case round =>
    obtain ⟨k, hk2, hk, rfl, hall⟩ := hrel
    by_cases hlt : k < n
    · have hks : k < s.size := by omega
      cases hd : isHx (s[k].toNat : Nat) with
      | true =>
        have HD := Lib.hid hd
        have hall2 : Hid (∀ j, 2 ≤ j → j < k + 1 → (h : j < s.size) → isHx (s[j].toNat : Nat) = true) := by
          intro j hj2 hj h
          by_cases e : j = k
          · subst e; exact hd
          · exact hall.out j hj2 (by omega) h
        clear hd
        go_wp2_with (go_at_call 56; refine (rh_is true _ _ HD.out).mono ?_; rintro e w' ⟨rfl, rfl⟩)
        exact ⟨⟨k + 1, by omega, by omega, by go_num, hall2⟩, by simp [intOf]; omega⟩
      | false =>
        have HD := Lib.hid hd
        have HT := Lib.hid (HB.out k hk2 hlt hks hd)
        clear hd
        go_wp2_with (go_at_call 56; refine (rh_is false _ _ HD.out).mono ?_; rintro e w' ⟨rfl, rfl⟩)
        go_ret3
        exact ⟨by rw [HT.out]; rfl, rfl⟩
    · have hke : k = n := by omega
      subst hke
      by_cases hz2 : k = 2
      · have HT := Lib.hid (HZ.out (Or.inl hz2))
        subst hz2
        go_wp2_with fail
        all_goals go_ret3
        all_goals exact ⟨by rw [HT.out]; rfl, rfl⟩
      · have hz3 : 2 < k := by omega
        have bk2 : ((k : Int) == 2) = false := beq_eq_false_iff_ne.2 (by omega)
        by_cases hz18 : 18 < k
        · have HT := Lib.hid (HZ.out (Or.inr hz18))
          go_wp2_with fail
          all_goals go_ret3
          all_goals exact ⟨by rw [HT.out]; rfl, rfl⟩
        · have HT := Lib.hid (HO.out hall.out hz3 (by omega))
          by_cases hbig : 9223372036854775808 ≤ valN 16 ((s.data.toList.take k).drop 2)
          · have C : Hid (Val16 (s.extract 2 k) (.tuple #[.int .i64 0, .bool false])) := by
              have := val_hex s hs k hns hall.out
              rwa [valV_big hbig] at this
            have HT2 : Hid (T = Tk.bad 5) := by show _ = _; rw [HT.out, if_pos hbig]
            clear hbig
            go_wp2_with (go_at_call 57; refine (C.out _).mono ?_; rintro e w' ⟨rfl, rfl⟩)
            all_goals go_ret3
            all_goals exact ⟨by rw [HT2.out]; rfl, rfl⟩
          · obtain ⟨V, hV⟩ : ∃ V, valN 16 ((s.data.toList.take k).drop 2) = V := ⟨_, rfl⟩
            rw [hV] at hbig
            have C : Hid (Val16 (s.extract 2 k) (.tuple #[.int .i64 V, .bool true])) := by
              have := val_hex s hs k hns hall.out
              rwa [hV, valV_ok hbig] at this
            have HT2 : Hid (T = ⟨3, k, V, 0⟩) := by show _ = _; rw [HT.out, hV, if_neg hbig]
            clear hbig hV
            go_wp2_with (go_at_call 57; refine (C.out _).mono ?_; rintro e w' ⟨rfl, rfl⟩)
            all_goals go_ret3
            all_goals exact ⟨by rw [HT2.out]; rfl, rfl⟩
theorem rNum (s : ByteArray) (w : World) (hs : s.size ≤ 20000) (h0 : 0 < s.size) (hdg : isDig (s[0].toNat : Nat) = true) :
    Calls Tryd.prog 49 #[.string s] w fun e w' => e = .returned (numV (numberR s.data.toList)) ∧ w = w' := by
  cases hx : Lib.hasPrefix s.data.toList [48, 120] with
  | true => exact rNumHex s w hs hx
  | false => exact rNumDec s w hs h0 hdg hx
end Go.Proofs.YthbhlmkgbinegaaDoor
