/- The document's answer: Blank. -/
import Derived.Test.YthbhlmkgbinegaaDoorP7
import Derived.Test.YthbhlmkgbinegaaDoorT3
namespace Go.Proofs.YthbhlmkgbinegaaDoor
open Go.RowKit
def BlankR (l : List UInt8) (k : Nat) (p q : Int) : Prop :=
  (∃ m : Nat, p = m ∧ q = 0 ∧ k ≤ m ∧ m ≤ l.length ∧ lexG (l.drop k) k = lexG (l.drop m) m ∧ (m < l.length → isSp (hd (l.drop m)) = false ∧ isNote (l.drop m) = false)) ∨
  (∃ m : Nat, p = -1 ∧ q = m ∧ lexG (l.drop k) k = .bad m 2)
theorem hd_at (s : ByteArray) (m : Nat) (h : m < s.size) : hd (s.data.toList.drop m) = (s[m].toNat : Nat) := by
  unfold hd
  rw [List.drop_eq_getElem_cons (by simpa using h)]
  rfl
theorem drop_ne (s : ByteArray) (m : Nat) (h : m < s.size) : s.data.toList.drop m ≠ [] := by
  intro e; have := congrArg List.length e; simp at this; omega
theorem ten_at (s : ByteArray) (i : Nat) (h : i < s.size) : Lib.hasPrefix (s.data.toList.drop i) [10] = true ↔ (s[i].toNat : Int) = 10 := by
  rw [hp_one]
  have e := hd_at s i h
  constructor
  · rintro ⟨r, hr⟩
    rw [hr] at e
    exact e.symm
  · intro h10
    refine ⟨(s.data.toList.drop i).tail, ?_⟩
    rw [List.drop_eq_getElem_cons (by simpa using h)]
    have : s[i] = 10 := by
      apply UInt8.toNat_inj.1
      show s[i].toNat = 10
      omega
    congr 1
theorem line_lex (s : ByteArray) (m q : Nat) (hm : m < s.size) (hsp : isSp (hd (s.data.toList.drop m)) = false) (hp : Lib.hasPrefix (s.data.toList.drop m) [47, 47] = true) (hq : m ≤ q) (hqs : q ≤ s.size)
    (hno : ∀ i, m ≤ i → i < q → (h : i < s.size) → ¬ (s[i].toNat : Int) = 10) (hend : (h : q < s.size) → (s[q].toNat : Int) = 10) : lexG (s.data.toList.drop m) m = lexG (s.data.toList.drop q) q := by
  have hne := drop_ne s m hm
  have hnote : isNote (s.data.toList.drop m) = true := by unfold isNote; rw [hp]; rfl
  have hl : (s.data.toList.drop m).length = s.size - m := by simp
  have hl2 := note_len hnote
  have hno' : ∀ i, m + i < q → Lib.hasPrefix ((s.data.toList.drop m).drop i) [10] = false := by
    intro i hi
    rw [List.drop_drop, Bool.eq_false_iff]
    intro e
    exact hno (m + i) (by omega) hi (by omega) ((ten_at s (m + i) (by omega)).1 e)
  by_cases hlt : q < s.size
  · have h10 := hend hlt
    have hpq := (ten_at s q hlt).2 h10
    have h2 : m + 2 ≤ q := by
      obtain ⟨r, hr⟩ := note_two hp
      rcases Nat.lt_or_ge q (m + 2) with hh | hh
      · exfalso
        have e : s.data.toList.drop q = (s.data.toList.drop m).drop (q - m) := by rw [List.drop_drop, show m + (q - m) = q by omega]
        rw [e, hr] at hpq
        rcases (show q - m = 0 ∨ q - m = 1 by omega) with e0 | e0 <;> rw [e0] at hpq <;> revert hpq <;> simp [Lib.hasPrefix]
      · exact hh
    have hc := line_at hp (q - m) (by omega) (fun i _ hi => hno' i (by omega)) (by rw [List.drop_drop, show m + (q - m) = q by omega]; exact hpq)
    rw [step_note hne hsp hnote (q - m + 1) (by omega) (by rw [hc]; simp), List.drop_drop, show m + (q - m + 1) = q + 1 by omega, step_sp (drop_ne s q hlt) (by rw [hd_at s q hlt, h10]; rfl), List.drop_drop]
  · have hqe : q = s.size := by omega
    have hc := line_no hp (fun i _ hi => hno' i (by omega))
    rw [step_note hne hsp hnote (s.data.toList.drop m).length (by omega) hc, List.drop_drop, hl, show m + (s.size - m) = q by omega]
theorem block_lex (s : ByteArray) (m q : Nat) (hm : m < s.size) (hsp : isSp (hd (s.data.toList.drop m)) = false) (hp : Lib.hasPrefix (s.data.toList.drop m) [47, 42] = true) (hq : m + 2 ≤ q)
    (hno : ∀ i, m + 2 ≤ i → i < q → Lib.hasPrefix (s.data.toList.drop i) [42, 47] = false) (hend : Lib.hasPrefix (s.data.toList.drop q) [42, 47] = true) : lexG (s.data.toList.drop m) m = lexG (s.data.toList.drop (q + 2)) (q + 2) := by
  have hne := drop_ne s m hm
  have hnote : isNote (s.data.toList.drop m) = true := by unfold isNote; rw [hp]; exact Bool.or_true _
  have hc := block_at hp (q - m) (by omega) (fun i _ hi => by rw [List.drop_drop]; exact hno _ (by omega) (by omega)) (by rw [List.drop_drop, show m + (q - m) = q by omega]; exact hend)
  rw [step_note hne hsp hnote (q - m + 2) (by omega) (by rw [hc]; simp), List.drop_drop, show m + (q - m + 2) = q + 2 by omega]
theorem block_open (s : ByteArray) (m : Nat) (hm : m < s.size) (hsp : isSp (hd (s.data.toList.drop m)) = false) (hp : Lib.hasPrefix (s.data.toList.drop m) [47, 42] = true)
    (hno : ∀ i, m + 2 ≤ i → i < s.size → Lib.hasPrefix (s.data.toList.drop i) [42, 47] = false) : lexG (s.data.toList.drop m) m = .bad m 2 := by
  have hne := drop_ne s m hm
  have hnote : isNote (s.data.toList.drop m) = true := by unfold isNote; rw [hp]; exact Bool.or_true _
  have hl : (s.data.toList.drop m).length = s.size - m := by simp
  exact step_note0 hne hsp hnote (block_no hp (fun i _ hi => by rw [List.drop_drop]; exact hno _ (by omega) (by omega)))
set_option maxHeartbeats 8000000 in
theorem rBlank (s : ByteArray) (k : Nat) (hs : s.size ≤ 20000) (hk : k ≤ s.size) (w : World) :
    Calls Tryd.prog 31 #[.string s, .int .i64 k] w fun e w' => (∃ p q, e = .returned (.tuple #[.int .i64 p, .int .i64 q]) ∧ BlankR s.data.toList k p q) ∧ w = w' := by
  go_enter Tryd.func31, Tryd.ntmps31
  go_wp2_with fail
  go_loop [1, 6, 7] (fun i _ _ => ∃ m : Nat, k ≤ m ∧ m ≤ s.size ∧ i = .int .i64 m ∧ Hid (lexG (s.data.toList.drop k) k = lexG (s.data.toList.drop m) m)) (fun i _ _ => s.size - (intOf i).toNat)
  case atStart => exact ⟨k, Nat.le_refl _, hk, rfl, rfl⟩
  case round =>
    obtain ⟨m, hm, hms, rfl, HG⟩ := hrel
    by_cases hlt : m < s.size
    · have hhd := Lib.hid (hd_at s m hlt)
      have hne := Lib.hid (drop_ne s m hlt)
      cases hsp : isSp (s[m].toNat : Nat) with
      | true =>
        have HSP := Lib.hid hsp
        have hc : (s[m].toNat : Int) = 32 ∨ (s[m].toNat : Int) = 9 ∨ (s[m].toNat : Int) = 10 ∨ (s[m].toNat : Int) = 13 := by
          simp [isSp] at hsp; omega
        clear hsp
        have HG2 : Hid (lexG (s.data.toList.drop k) k = lexG (s.data.toList.drop (m + 1)) (m + 1)) := by
          show _ = _
          rw [HG.out, step_sp hne.out (by rw [hhd.out]; exact HSP.out), List.drop_drop]
        go_wp2_with fail
        all_goals first
          | exact ⟨⟨m + 1, by omega, by omega, by go_num, HG2⟩, by simp [intOf]; omega⟩
          | (exfalso; simp_all; done)
          | (exfalso; simp_all; omega)
      | false =>
        have hspR := Lib.hid (show isSp (hd (s.data.toList.drop m)) = false by rw [hhd.out]; exact hsp)
        have hc : ¬ (s[m].toNat : Int) = 32 ∧ ¬ (s[m].toNat : Int) = 9 ∧ ¬ (s[m].toNat : Int) = 10 ∧ ¬ (s[m].toNat : Int) = 13 := by
          simp [isSp] at hsp; omega
        obtain ⟨hc1, hc2, hc3, hc4⟩ := hc
        clear hsp
        cases hn1 : Lib.hasPrefix (s.data.toList.drop m) [47, 47] with
        | true =>
          have HN1 := Lib.hid hn1
          clear hn1
          go_wp2_with (go_at_call 47; refine (rStarts true s ⟨#[47, 47]⟩ m hs (by decide) hms _ HN1.out).mono ?_; rintro e w' ⟨rfl, rfl⟩)
          · rename_i hq; exfalso; simp [hc1, hc2, hc3, hc4] at hq
          go_loop [1] (fun i => ∃ q : Nat, m ≤ q ∧ q ≤ s.size ∧ i = .int .i64 q ∧ Hid (∀ i, m ≤ i → i < q → (h : i < s.size) → ¬ (s[i].toNat : Int) = 10)) (fun i => s.size - (intOf i).toNat)
          case atStart => exact ⟨m, Nat.le_refl _, hms, rfl, fun i h1 h2 => absurd h2 (by omega)⟩
          case round =>
            obtain ⟨q, hq, hqs, rfl, hno⟩ := hrel
            by_cases hql : q < s.size
            · by_cases h10 : (s[q].toNat : Int) = 10
              · have HE := Lib.hid (line_lex s m q hlt hspR.out HN1.out hq hqs hno.out (fun _ => h10))
                go_wp2_with fail
                have hmq : m < q := by
                  rcases Nat.lt_or_ge m q with h | h
                  · exact h
                  · exfalso; have : q = m := by omega
                    subst this; exact hc3 h10
                exact ⟨⟨q, by omega, hqs, rfl, HG.out.trans HE.out⟩, by simp [intOf]; omega⟩
              · have hno2 : Hid (∀ i, m ≤ i → i < q + 1 → (h : i < s.size) → ¬ (s[i].toNat : Int) = 10) := by
                  intro i h1 h2 h3
                  by_cases e : i = q
                  · subst e; exact h10
                  · exact hno.out i h1 (by omega) h3
                go_wp2_with fail
                exact ⟨⟨q + 1, by omega, by omega, by go_num, hno2⟩, by simp [intOf]; omega⟩
            · have HE := Lib.hid (line_lex s m q hlt hspR.out HN1.out hq hqs hno.out (fun h => absurd h hql))
              go_wp2_with fail
              exact ⟨⟨q, by omega, hqs, by first | rfl | go_num, HG.out.trans HE.out⟩, by simp [intOf]; omega⟩
        | false =>
        have HN1 := Lib.hid hn1
        have HN1b := Lib.hid hn1
        clear hn1
        cases hn2 : Lib.hasPrefix (s.data.toList.drop m) [47, 42] with
        | true =>
          have HN2 := Lib.hid hn2
          have hm2 : m + 2 ≤ s.size := by have := hp_len hn2; simp at this; omega
          clear hn2
          go_wp2_with (first | (have _h := HN1; clear _h; go_at_call 47; refine (rStarts false s ⟨#[47, 47]⟩ m hs (by decide) hms _ HN1.out).mono ?_; rintro e w' ⟨rfl, rfl⟩; clear HN1) | (go_at_call 47; refine (rStarts true s ⟨#[47, 42]⟩ m hs (by decide) hms _ HN2.out).mono ?_; rintro e w' ⟨rfl, rfl⟩))
          · rename_i hq; exfalso; simp [hc1, hc2, hc3, hc4] at hq
          go_loop [7] (fun i => ∃ q : Nat, m + 2 ≤ q ∧ q ≤ s.size ∧ i = .int .i64 q ∧ Hid (∀ i, m + 2 ≤ i → i < q → Lib.hasPrefix (s.data.toList.drop i) [42, 47] = false)) (fun i => s.size - (intOf i).toNat)
          case atStart => exact ⟨m + 2, Nat.le_refl _, hm2, by go_num, fun i h1 h2 => absurd h2 (by omega)⟩
          case round =>
            obtain ⟨q, hq, hqs, rfl, hno⟩ := hrel
            by_cases hql : q < s.size
            · cases hn3 : Lib.hasPrefix (s.data.toList.drop q) [42, 47] with
              | true =>
                have HN3 := Lib.hid hn3
                have hq2 : q + 2 ≤ s.size := by have := hp_len hn3; simp at this; omega
                have HE := Lib.hid (block_lex s m q hlt hspR.out HN2.out hq hno.out hn3)
                clear hn3
                go_wp2_with (go_at_call 47; refine (rStarts true s ⟨#[42, 47]⟩ q hs (by decide) hqs _ HN3.out).mono ?_; rintro e w' ⟨rfl, rfl⟩)
                exact ⟨⟨q + 2, by omega, hq2, by go_num, HG.out.trans HE.out⟩, by simp [intOf]; omega⟩
              | false =>
                have HN3 := Lib.hid hn3
                have hno2 : Hid (∀ i, m + 2 ≤ i → i < q + 1 → Lib.hasPrefix (s.data.toList.drop i) [42, 47] = false) := by
                  intro i h1 h2
                  by_cases e : i = q
                  · subst e; exact hn3
                  · exact hno.out i h1 (by omega)
                clear hn3
                go_wp2_with (go_at_call 47; refine (rStarts false s ⟨#[42, 47]⟩ q hs (by decide) hqs _ HN3.out).mono ?_; rintro e w' ⟨rfl, rfl⟩)
                exact ⟨⟨q + 1, by omega, by omega, by go_num, hno2⟩, by simp [intOf]; omega⟩
            · have HE := Lib.hid (block_open s m hlt hspR.out HN2.out (fun i h1 h2 => hno.out i h1 (by omega)))
              go_wp2_with fail
              go_ret2
              exact ⟨⟨_, _, rfl, Or.inr ⟨m, by omega, rfl, HG.out.trans HE.out⟩⟩, rfl⟩
        | false =>
          have HN2 := Lib.hid hn2
          clear hn2
          go_wp2_with (first | (have _h := HN1; clear _h; go_at_call 47; refine (rStarts false s ⟨#[47, 47]⟩ m hs (by decide) hms _ HN1.out).mono ?_; rintro e w' ⟨rfl, rfl⟩; clear HN1) | (go_at_call 47; refine (rStarts false s ⟨#[47, 42]⟩ m hs (by decide) hms _ HN2.out).mono ?_; rintro e w' ⟨rfl, rfl⟩))
          · rename_i hq; exfalso; simp [hc1, hc2, hc3, hc4] at hq
          go_ret2
          exact ⟨⟨_, _, rfl, Or.inl ⟨m, rfl, rfl, hm, by simpa using hms, HG.out, fun _ => ⟨hspR.out, by unfold isNote; rw [HN1b.out, HN2.out]; rfl⟩⟩⟩, rfl⟩
    · have hmm : m = s.size := by omega
      go_wp2_with fail
      go_ret2
      exact ⟨⟨_, _, rfl, Or.inl ⟨m, by omega, rfl, hm, by simpa using hms, HG.out, fun h => absurd h (by simp; omega)⟩⟩, rfl⟩
end Go.Proofs.YthbhlmkgbinegaaDoor
