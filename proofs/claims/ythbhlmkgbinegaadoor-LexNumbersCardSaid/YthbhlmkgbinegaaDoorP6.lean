/- Plain: a number's digits. -/
import Derived.Test.YthbhlmkgbinegaaDoorP5
namespace Go.Proofs.YthbhlmkgbinegaaDoor
theorem vFrom_acc (b : Nat) (l : List UInt8) : ∀ acc, vFrom b acc l = acc * b ^ l.length + vFrom b 0 l := by
  induction l with
  | nil => intro acc; simp [vFrom]
  | cons c l ih =>
    intro acc
    have e1 : vFrom b acc (c :: l) = vFrom b (acc * b + digV c.toNat) l := rfl
    have e2 : vFrom b 0 (c :: l) = vFrom b (digV c.toNat) l := by
      show vFrom b (0 * b + digV c.toNat) l = _
      rw [Nat.zero_mul, Nat.zero_add]
    rw [e1, e2, ih (acc * b + digV c.toNat), ih (digV c.toNat), List.length_cons, Nat.pow_succ, Nat.add_mul, Nat.mul_assoc, Nat.mul_comm b]
    omega
theorem valN_cons (b : Nat) (c : UInt8) (l : List UInt8) : valN b (c :: l) = digV c.toNat * b ^ l.length + valN b l := by
  rw [valN_eq, valN_eq]
  have e : vFrom b 0 (c :: l) = vFrom b (0 * b + digV c.toNat) l := rfl
  rw [e, vFrom_acc]
  simp
def hexT : List UInt8 := [48, 49, 50, 51, 52, 53, 54, 55, 56, 57, 97, 98, 99, 100, 101, 102]
/-- the digits so far, what is left of the number. -/
structure Digs (b n : Nat) (h : List UInt8) (k : Nat) : Prop where
  val : valN b h + b ^ h.length * k = n
  dig : ∀ c ∈ h, c ∈ hexT.take b
  top : h ≠ [] → k = 0 → h.headD 0 ≠ 48 ∨ h = [48]
theorem digs_start (b n : Nat) : Digs b n [] n := ⟨by simp [valN], (fun _ h => by cases h), fun h => absurd rfl h⟩
theorem hexT_val (k : Nat) (hk : k < 16) : digV (hexT[k]'hk).toNat = k := by
  revert k; decide
theorem hexT_48 (k : Nat) (hk : k < 16) (h : (hexT[k]'hk) = 48) : k = 0 := by
  revert k; decide
theorem digs_step (b n : Nat) (h : List UInt8) (k : Nat) (hb : 2 ≤ b ∧ b ≤ 16) (hd : Digs b n h k) (hc : 0 < k ∨ h = []) (hlt : k % b < 16) : Digs b n ((hexT[k % b]'hlt) :: h) (k / b) := by
  have hm : k % b < b := Nat.mod_lt _ (by omega)
  refine ⟨?_, ?_, ?_⟩
  · rw [valN_cons, hexT_val, List.length_cons, Nat.pow_succ, ← hd.val, Nat.mul_assoc]
    have e := Nat.div_add_mod k b
    have : b ^ h.length * k = b ^ h.length * (b * (k / b)) + b ^ h.length * (k % b) := by rw [← Nat.mul_add, e]
    rw [this, Nat.mul_comm (k % b)]
    omega
  · intro c hc'
    rcases List.mem_cons.1 hc' with rfl | hc'
    · have : (hexT.take b)[k % b]'(by simp [hexT]; omega) = hexT[k % b]'hlt := List.getElem_take
      rw [← this]; exact List.getElem_mem _
    · exact hd.dig c hc'
  · intro _ hk
    have hkb : k < b := by
      rcases Nat.lt_or_ge k b with h | h
      · exact h
      · have := Nat.div_pos h (by omega); omega
    have em : (hexT[k % b]'hlt) = (hexT[k]'(by have : hexT.length = 16 := rfl; omega)) := by
      congr 1; exact Nat.mod_eq_of_lt hkb
    rw [em]
    by_cases h0 : k = 0
    · rcases hc with h | h
      · omega
      · right; subst h0; subst h; rfl
    · left
      intro e
      exact h0 (hexT_48 k (by omega) e)
theorem hexT_dig : ∀ c ∈ hexT.take 10, isDig (c.toNat : Nat) = true := by decide
theorem hexT_hx : ∀ c ∈ hexT.take 16, isHx (c.toNat : Nat) = true := by decide
theorem pfx_allnl (p : Int → Bool) (l m : List UInt8) (h : ∀ c ∈ l, p (c.toNat : Nat) = true) (hm : ∀ c, m.head? = some c → p (c.toNat : Nat) = false) : pfx p (l ++ m) = l.length := by
  induction l with
  | nil =>
    cases m with
    | nil => rfl
    | cons c m => simp only [List.nil_append, pfx]; rw [if_neg (by rw [hm c rfl]; simp)]; rfl
  | cons c l ih =>
    simp only [List.cons_append, pfx]
    rw [if_pos (h c (List.mem_cons_self ..)), ih (fun x hx => h x (List.mem_cons_of_mem _ hx))]
    rfl
theorem hex_len (n : Nat) (hn : n < 9223372036854775808) (h : List UInt8) (k : Nat) (hd : Digs 16 n h k) (hk : 0 < k) : h.length < 16 := by
  have h1 : 16 ^ h.length ≤ n := by
    have := hd.val
    have h2 := Nat.le_mul_of_pos_right (16 ^ h.length) hk
    omega
  rcases Nat.lt_or_ge h.length 16 with h2 | h2
  · exact h2
  · have h3 := Nat.pow_le_pow_right (show 0 < 16 by omega) h2
    have h4 : (16 : Nat) ^ 16 = 18446744073709551616 := by decide
    omega
/-- what LexNumbers asks: both texts are one number each. -/
theorem numbers_lex (n : Nat) (hn : n < 9223372036854775808) (dec hex : List UInt8) (d : Digs 10 n dec 0) (x : Digs 16 n hex 0) (hd0 : dec ≠ []) (hx0 : hex ≠ []) (hx16 : hex.length ≤ 16) :
    lexG (dec ++ [32, 48, 120] ++ hex) 0 = .ok [⟨3, 0, dec, n⟩, ⟨3, dec.length + 1, [48, 120] ++ hex, n⟩] := by
  have hdig : ∀ c ∈ dec, isDig (c.toNat : Nat) = true := fun c hc => hexT_dig c (d.dig c hc)
  have hhx : ∀ c ∈ hex, isHx (c.toNat : Nat) = true := fun c hc => hexT_hx c (x.dig c hc)
  have vd : valN 10 dec = n := by have := d.val; simpa using this
  have vx : valN 16 hex = n := by have := x.val; simpa using this
  obtain ⟨c0, r0, rfl⟩ : ∃ c r, dec = c :: r := by cases dec with
    | nil => exact absurd rfl hd0
    | cons c r => exact ⟨c, r, rfl⟩
  have hc0 := hdig c0 (List.mem_cons_self ..)
  generalize hM : (32 :: 48 :: 120 :: hex : List UInt8) = M
  have e0 : (c0 :: r0) ++ [32, 48, 120] ++ hex = (c0 :: r0) ++ M := by rw [← hM]; simp
  rw [e0]
  have hr : 48 ≤ c0.toNat ∧ c0.toNat ≤ 57 := by simp [isDig] at hc0; omega
  have hhd : hd ((c0 :: r0) ++ M) = (c0.toNat : Nat) := rfl
  have hsp : isSp (hd ((c0 :: r0) ++ M)) = false := by rw [hhd]; simp [isSp]; omega
  have hnt : isNote ((c0 :: r0) ++ M) = false := by
    have : ¬ (47 : UInt8) = c0 := by intro e; rw [← e] at hr; revert hr; decide
    simp [isNote, Lib.hasPrefix, List.isPrefixOf, this]
  have hlet : isLet (hd ((c0 :: r0) ++ M)) = false := by rw [hhd]; simp [isLet]; omega
  have hstop : spanR ((c0 :: r0) ++ M) = ⟨0, (c0 :: r0).length, 10⟩ := by
    unfold spanR
    by_cases h48 : c0 = 48
    · have : (c0 :: r0) = [48] := by
        rcases d.top (by simp) rfl with h | h
        · exact absurd h48 h
        · exact h
      cases this
      rw [if_neg (by simp)]
      have hx : hexD (([48] : List UInt8) ++ M) = 0 := by
        unfold hexD; rw [if_neg]; rw [← hM]; simp [Lib.hasPrefix, List.isPrefixOf]
      rw [hx]; rfl
    · rw [if_pos (by simpa using h48), pfx_allnl isDig _ _ hdig (fun c hc => by rw [← hM] at hc; cases hc; decide)]
  have htk : tokR ((c0 :: r0) ++ M) = ⟨3, (c0 :: r0).length, n, 0⟩ := by
    unfold tokR
    rw [hlet, if_neg (by simp), hhd, if_pos hc0]
    unfold numberR
    rw [hstop]
    have hg : ((c0 :: r0) ++ M).getD (c0 :: r0).length 0 = 32 := by rw [← hM]; simp [List.getD_eq_getElem?_getD]
    rw [if_neg (by simp only [hg]; intro ⟨_, h⟩; revert h; decide)]
    simp only [List.drop_zero]
    rw [List.take_left, vd, if_neg (by omega)]
  rw [step_tok (by simp) hsp hnt (by rw [htk]), htk]
  simp only
  rw [List.drop_left, List.take_left, ← hM, step_sp (by simp) (by rfl)]
  have e2 : (32 :: 48 :: 120 :: hex : List UInt8).drop 1 = 48 :: 120 :: hex := rfl
  rw [e2]
  have hx : hexD (48 :: 120 :: hex) = hex.length := by
    unfold hexD
    have : Lib.hasPrefix (48 :: 120 :: hex) [48, 120] = true := by simp [Lib.hasPrefix, List.isPrefixOf]
    rw [if_pos this]
    have := pfx_allnl isHx hex [] hhx (fun c hc => by cases hc)
    rw [List.append_nil] at this
    show min (pfx isHx hex) 16 = _
    rw [this]; omega
  have hxl := List.length_pos_iff.2 hx0
  have hs2 : spanR (48 :: 120 :: hex) = ⟨2, 2 + hex.length, 16⟩ := by
    unfold spanR
    rw [hx, if_neg (by simp), if_pos hxl]
  have htk2 : tokR (48 :: 120 :: hex) = ⟨3, 2 + hex.length, n, 0⟩ := by
    unfold tokR
    rw [if_neg (by simp [hd, isLet]), if_pos (by rfl)]
    unfold numberR
    rw [hs2, if_neg (by simp; omega)]
    have : ((48 :: 120 :: hex : List UInt8).take (2 + hex.length)).drop 2 = hex := by
      rw [List.take_of_length_le (by simp; omega)]; rfl
    simp only
    rw [this, vx, if_neg (by omega)]
  have hsp2 : isSp (hd (48 :: 120 :: hex)) = false := by rfl
  have hnt2 : isNote (48 :: 120 :: hex) = false := by simp [isNote, Lib.hasPrefix, List.isPrefixOf]
  rw [step_tok (by simp) hsp2 hnt2 (by rw [htk2]), htk2]
  simp only
  rw [List.drop_of_length_le (by simp; omega), List.take_of_length_le (by simp; omega), lexG_nil]
  simp [Res.cons]
end Go.Proofs.YthbhlmkgbinegaaDoor
