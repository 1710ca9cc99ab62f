/- LexNumbers: the walk. -/
import Derived.Test.YthbhlmkgbinegaaDoorB1
import Derived.Test.YthbhlmkgbinegaaDoorP6
namespace Go.Proofs.YthbhlmkgbinegaaDoor
open Go.RowKit
def emp : Value → Nat
  | .string s => if s.size = 0 then 1 else 0
  | _ => 0
theorem enc_of (x : UInt8) (h : x.toNat < 128) : Utf8.encode (x.toNat : Nat) = ⟨#[x]⟩ := by
  have hv : Utf8.valid (x.toNat : Nat) = true := by simp [Utf8.valid]; omega
  simp [Utf8.encode, hv, h]
theorem hexT_128 : ∀ c ∈ hexT, c.toNat < 128 := by decide
theorem enc16 (j : Nat) (h : j < 16) : Utf8.encode ((({ data := #[48, 49, 50, 51, 52, 53, 54, 55, 56, 57, 97, 98, 99, 100, 101, 102] } : ByteArray)[j]'h).toNat : Nat) = ⟨#[hexT[j]'h]⟩ :=
  enc_of (hexT[j]'h) (hexT_128 _ (List.getElem_mem _))
theorem hexT_16 (j : Nat) (h : j < 16) : ({ data := #[48, 49, 50, 51, 52, 53, 54, 55, 56, 57, 97, 98, 99, 100, 101, 102] } : ByteArray)[j]'h = hexT[j]'h := rfl
theorem hexT_10 (j : Nat) (h : j < 10) : ({ data := #[48, 49, 50, 51, 52, 53, 54, 55, 56, 57] } : ByteArray)[j]'h = hexT[j]'(Nat.lt_trans h (by decide)) := by
  match j, h with
  | 0, _ => rfl
  | 1, _ => rfl
  | 2, _ => rfl
  | 3, _ => rfl
  | 4, _ => rfl
  | 5, _ => rfl
  | 6, _ => rfl
  | 7, _ => rfl
  | 8, _ => rfl
  | 9, _ => rfl
  | n + 10, h => exact absurd h (by omega)
theorem enc10 (j : Nat) (h : j < 10) : Utf8.encode ((({ data := #[48, 49, 50, 51, 52, 53, 54, 55, 56, 57] } : ByteArray)[j]'h).toNat : Nat) = ⟨#[hexT[j]'(Nat.lt_trans h (by decide))]⟩ := by
  rw [hexT_10]
  exact enc_of _ (hexT_128 _ (List.getElem_mem _))
theorem dec_len (n : Nat) (hn : n < 9223372036854775808) (h : List UInt8) (k : Nat) (hd : Digs 10 n h k) (hk : 0 < k) : h.length < 19 := by
  have h1 : 10 ^ h.length ≤ n := by
    have := hd.val
    have h2 := Nat.le_mul_of_pos_right (10 ^ h.length) hk
    omega
  rcases Nat.lt_or_ge h.length 19 with h2 | h2
  · exact h2
  · have h3 := Nat.pow_le_pow_right (show 0 < 10 by omega) h2
    have h4 : (10 : Nat) ^ 19 = 10000000000000000000 := by decide
    omega
theorem run_ix (s : ByteArray) (j : Nat) (h : j < s.size) (x : UInt8) (hx : s[j] = x) (w : World) : (Instr.index 9 (.string s) (.int .i64 j)).run Tryd.prog w = .ok (.int .u8 x.toNat) w := by
  subst hx
  have e : s[j]? = some s[j] := getElem?_pos s j h
  simp [Instr.index, Sem.run_bind, run_underlying Tryd.underlying9, asIntOf, e]
theorem run_cv (x : UInt8) (h : x.toNat < 128) (w : World) : (convert 5 9 (.int .u8 x.toNat)).run Tryd.prog w = .ok (.string ⟨#[x]⟩) w := by
  rw [run_convert_int_string w 5 9 .u8 _ (by rw [Tryd.underlying5]; rfl) Tryd.underlying9, enc_of x h]
theorem emp_pos {h : ByteArray} (e : h.size ≠ 0) : emp (.string h) = 0 := by simp [emp, e]
theorem emp_zero {h : ByteArray} (e : h.size = 0) : emp (.string h) = 1 := by simp [emp, e]
theorem size_list (h : ByteArray) : h.data.toList.length = h.size := by simp
theorem nil_of {h : ByteArray} (e : h.size = 0) : h.data.toList = [] := List.eq_nil_of_length_eq_zero (by rw [size_list]; exact e)
theorem cons_data (x : UInt8) (h : ByteArray) : (⟨#[x]⟩ ++ h : ByteArray).data.toList = x :: h.data.toList := by
  rw [ByteArray.data_append, Array.toList_append]; rfl
set_option maxRecDepth 100000 in
set_option maxHeartbeats 8000000 in
theorem numbers_ok (m : Nat) (hm : m < 9223372036854775808) (w : World) (hv : Vars w) :
    Calls Tryd.prog 9 #[.int .i64 m] w fun e w' => e = .returned (.bool true) ∧ Below w.heap.size w w' := by
  have HV := Lib.hid hv
  clear hv
  go_enter Tryd.func9, Tryd.ntmps9
  go_wp2_with fail
  refine (shown_any _ HV.out).mono ?_
  rintro e w1 ⟨rfl, hb1⟩
  have HB1 := Lib.hid hb1
  have HV1 := Lib.hid (HV.out.below hb1 HV.out.size)
  clear hb1
  go_wp2_with fail
  go_loop [4, 6] (fun v i => ∃ (k : Nat) (h : ByteArray), k ≤ m ∧ i = .int .i64 k ∧ v = .string h ∧ h.size ≤ 16 ∧ Hid (Digs 16 m h.data.toList k)) (fun v i => (intOf i).toNat * 2 + emp v)
  case atStart => exact ⟨m, ⟨#[]⟩, Nat.le_refl _, rfl, rfl, by show 0 ≤ _; omega, digs_start 16 m⟩
  case round =>
    obtain ⟨k, h, hk, rfl, rfl, hsz, hD⟩ := hrel
    by_cases hgo : 0 < k ∨ h.size = 0
    · have hlt16 : k % 16 < 16 := Nat.lt_of_lt_of_le (Nat.mod_lt _ (by omega)) (by omega)
      have hlt : k % 16 < 16 := Nat.mod_lt _ (by omega)
      have hst := Lib.hid (digs_step 16 m h.data.toList k (by omega) hD.out (by rcases hgo with h1 | h1; exact Or.inl h1; exact Or.inr (nil_of h1)) hlt16)
      have hx128 := hexT_128 _ (List.getElem_mem hlt16 : hexT[k % 16]'hlt16 ∈ hexT)
      have htab := hexT_16 (k % 16) hlt
      generalize (hexT[k % 16]'hlt16) = x at htab hst hx128
      have hix : ∀ w, (Instr.index 9 (.string ⟨#[48, 49, 50, 51, 52, 53, 54, 55, 56, 57, 97, 98, 99, 100, 101, 102]⟩) (.int .i64 ((k : Int) % 16))).run Tryd.prog w = .ok (.int .u8 x.toNat) w := fun w => by
        have := run_ix ⟨#[48, 49, 50, 51, 52, 53, 54, 55, 56, 57, 97, 98, 99, 100, 101, 102]⟩ (k % 16) hlt x htab w
        rwa [show ((k % 16 : Nat) : Int) = (k : Int) % 16 by omega] at this
      have hcv := run_cv x hx128
      clear htab hx128 hlt16 hlt
      have hsz' : h.size < 16 := by
        rcases hgo with h1 | h1
        · have := hex_len m hm _ k hD.out h1; rw [size_list] at this; omega
        · omega
      by_cases h0 : 0 < k
      · clear hgo
        go_wp2_with fail
        refine ⟨⟨k / 16, ⟨#[x]⟩ ++ h, by omega, by go_num, rfl, by simp; show 1 + _ ≤ _; omega, ?_⟩, ?_⟩
        · show Digs _ _ _ _; rw [cons_data]; exact hst.out
        · rw [emp_pos (by rw [ByteArray.size_append]; show 1 + _ ≠ 0; omega)]; simp [intOf]; omega
      · have hh0 : h.size = 0 := by omega
        have hk0 : k = 0 := by omega
        subst hk0
        have hemp : h.toList.isEmpty = true := by rw [ByteArray.toList_eq, nil_of hh0]; rfl
        have HH := Lib.hid hh0
        have hix0 : ∀ w, (Instr.index 9 (.string ⟨#[48, 49, 50, 51, 52, 53, 54, 55, 56, 57, 97, 98, 99, 100, 101, 102]⟩) (.int .i64 0)).run Tryd.prog w = .ok (.int .u8 x.toNat) w := fun w => hix w
        clear hgo hh0 hix
        go_wp2_with fail
        refine ⟨⟨0, ⟨#[x]⟩ ++ h, by omega, by rfl, rfl, by simp; show 1 + _ ≤ _; omega, ?_⟩, ?_⟩
        · show Digs _ _ _ _; rw [cons_data]; exact hst.out
        · rw [emp_pos (by rw [ByteArray.size_append]; show 1 + _ ≠ 0; omega), emp_zero HH.out]; simp [intOf]
    · have hk0 : k = 0 := by omega
      subst hk0
      have hnh : h.size ≠ 0 := by omega
      have hemp : h.toList.isEmpty = false := bytes_ne hnh
      clear hgo
      go_wp2_with fail
      go_loop [5, 7] (fun v i => ∃ (k : Nat) (d : ByteArray), k ≤ m ∧ i = .int .i64 k ∧ v = .string d ∧ d.size ≤ 19 ∧ Hid (Digs 10 m d.data.toList k)) (fun v i => (intOf i).toNat * 2 + emp v)
      case atStart => exact ⟨m, ⟨#[]⟩, Nat.le_refl _, rfl, rfl, by show 0 ≤ _; omega, digs_start 10 m⟩
      case round =>
        obtain ⟨k, d, hk, rfl, rfl, hdz, hE⟩ := hrel
        by_cases hgo : 0 < k ∨ d.size = 0
        · have hlt16 : k % 10 < 16 := Nat.lt_of_lt_of_le (Nat.mod_lt _ (by omega)) (by omega)
          have hlt : k % 10 < 10 := Nat.mod_lt _ (by omega)
          have hst := Lib.hid (digs_step 10 m d.data.toList k (by omega) hE.out (by rcases hgo with h1 | h1; exact Or.inl h1; exact Or.inr (nil_of h1)) hlt16)
          have hx128 := hexT_128 _ (List.getElem_mem hlt16 : hexT[k % 10]'hlt16 ∈ hexT)
          have htab := hexT_10 (k % 10) hlt
          generalize (hexT[k % 10]'hlt16) = x at htab hst hx128
          have hix : ∀ w, (Instr.index 9 (.string ⟨#[48, 49, 50, 51, 52, 53, 54, 55, 56, 57]⟩) (.int .i64 ((k : Int) % 10))).run Tryd.prog w = .ok (.int .u8 x.toNat) w := fun w => by
            have := run_ix ⟨#[48, 49, 50, 51, 52, 53, 54, 55, 56, 57]⟩ (k % 10) hlt x htab w
            rwa [show ((k % 10 : Nat) : Int) = (k : Int) % 10 by omega] at this
          have hcv := run_cv x hx128
          clear htab hx128 hlt16 hlt
          have hsz' : d.size < 19 := by
            rcases hgo with h1 | h1
            · have := dec_len m hm _ k hE.out h1; rw [size_list] at this; omega
            · omega
          by_cases h0 : 0 < k
          · clear hgo
            go_wp2_with fail
            refine ⟨⟨k / 10, ⟨#[x]⟩ ++ d, by omega, by go_num, rfl, by simp; show 1 + _ ≤ _; omega, ?_⟩, ?_⟩
            · show Digs _ _ _ _; rw [cons_data]; exact hst.out
            · rw [emp_pos (by rw [ByteArray.size_append]; show 1 + _ ≠ 0; omega)]; simp [intOf]; omega
          · have hh0 : d.size = 0 := by omega
            have hk0 : k = 0 := by omega
            subst hk0
            have hemp : d.toList.isEmpty = true := by rw [ByteArray.toList_eq, nil_of hh0]; rfl
            have HI := Lib.hid hh0
            have hix0 : ∀ w, (Instr.index 9 (.string ⟨#[48, 49, 50, 51, 52, 53, 54, 55, 56, 57]⟩) (.int .i64 0)).run Tryd.prog w = .ok (.int .u8 x.toNat) w := fun w => hix w
            clear hgo hh0 hix
            go_wp2_with fail
            refine ⟨⟨0, ⟨#[x]⟩ ++ d, by omega, by rfl, rfl, by simp; show 1 + _ ≤ _; omega, ?_⟩, ?_⟩
            · show Digs _ _ _ _; rw [cons_data]; exact hst.out
            · rw [emp_pos (by rw [ByteArray.size_append]; show 1 + _ ≠ 0; omega), emp_zero HI.out]; simp [intOf]
        · have hk0 : k = 0 := by omega
          subst hk0
          have hnd : d.size ≠ 0 := by omega
          have hemp : d.toList.isEmpty = false := bytes_ne hnd
          clear hgo
          go_wp2_with fail
          have hT : tokensR (d ++ ⟨#[32, 48, 120]⟩ ++ h : ByteArray).data.toList = .ok [⟨3, 0, d.data.toList, m⟩, ⟨3, d.data.toList.length + 1, [48, 120] ++ h.data.toList, m⟩] := by
            have := numbers_lex m hm d.data.toList h.data.toList hE.out hD.out (by intro e; rw [← size_list, e] at hnd; exact hnd rfl) (by intro e; rw [← size_list, e] at hnh; exact hnh rfl) (by rw [size_list]; omega)
            unfold tokensR
            rw [ByteArray.data_append, Array.toList_append, ByteArray.data_append, Array.toList_append]
            rw [if_neg (by simp; omega)]
            exact this
          have HT := Lib.hid hT
          clear hT
          refine (tokens_ok _ _ _ HV1.out HT.out (by simp)).mono ?_
          rintro e w2 ⟨g, cap, rfl, hg1, hg2, hb2, hc⟩
          have c0 : w2.cell? ⟨g, 0, none⟩ = some (.int .i64 3) := by rcases hc 0 with h | h; exact h; simp at h
          have c2 : w2.cell? ⟨g, 2, none⟩ = some (.string d) := by rcases hc 2 with h | h; exact h; simp at h
          have c3 : w2.cell? ⟨g, 3, none⟩ = some (.int .i64 m) := by rcases hc 3 with h | h; exact h; simp at h
          have c4 : w2.cell? ⟨g, 4, none⟩ = some (.int .i64 3) := by rcases hc 4 with h | h; exact h; simp at h
          have c7 : w2.cell? ⟨g, 7, none⟩ = some (.int .i64 m) := by rcases hc 7 with h | h; exact h; simp at h
          have HB2 := Lib.hid hb2
          clear hc hg1 hg2 hb2
          go_wp2_with fail
          go_ret
          exact ⟨rfl, HB1.out.trans (HB2.out.mono HB1.out.size)⟩
theorem numbers_walk (n : Int) (hn : (Lit.int .i64 n).wf = true) (w : World) (hv : Vars w) :
    Calls Tryd.prog 9 #[.int .i64 n] w fun e w' => e = .returned (.bool true) ∧ Below w.heap.size w w' := by
  by_cases h0 : n < 0
  · have HV := Lib.hid hv
    clear hv hn
    go_enter Tryd.func9, Tryd.ntmps9
    go_wp2_with fail
    refine (shown_any _ HV.out).mono ?_
    rintro e w1 ⟨rfl, hb1⟩
    have HB1 := Lib.hid hb1
    clear hb1
    go_wp2_with fail
    go_ret
    exact ⟨rfl, HB1.out⟩
  · have hb := bounds_i64 hn
    obtain ⟨m, hm⟩ : ∃ m : Nat, n = m := ⟨n.toNat, by omega⟩
    subst hm
    exact numbers_ok m (by omega) w hv
end Go.Proofs.YthbhlmkgbinegaaDoor
