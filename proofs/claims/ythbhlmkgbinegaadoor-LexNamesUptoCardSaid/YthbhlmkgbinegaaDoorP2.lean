/- Plain: all tokens of a list of bytes. -/
import Derived.Test.YthbhlmkgbinegaaDoorN4
namespace Go.Proofs.YthbhlmkgbinegaaDoor
structure T4 where
  kind : Int
  pos : Nat
  text : List UInt8
  val : Int
inductive Res where
  | ok (l : List T4)
  | bad (pos : Nat) (e : Int)
inductive Stp where
  | skip (k : Nat)
  | tok (t : Tk)
  | bad (e : Int)
def hd (l : List UInt8) : Int := ((l.headD 0).toNat : Nat)
def isNote (l : List UInt8) : Bool := Lib.hasPrefix l [47, 47] || Lib.hasPrefix l [47, 42]
def tokR (l : List UInt8) : Tk := if isLet (hd l) = true then wordR l else if isDig (hd l) = true then numberR l else if hd l = 39 then charR l else signR l
def stepR (l : List UInt8) : Stp :=
  if isSp (hd l) = true then .skip 1
  else if isNote l = true then (if commentR l = 0 then .bad 2 else .skip (commentR l).toNat)
  else if (tokR l).err = 0 then .tok (tokR l) else .bad (tokR l).err
def Res.cons (t : T4) : Res → Res
  | .ok l => .ok (t :: l)
  | .bad p e => .bad p e
def Res.pre (acc : List T4) : Res → Res
  | .ok l => .ok (acc ++ l)
  | .bad p e => .bad p e
def lexF : Nat → List UInt8 → Nat → Res
  | 0, _, _ => .ok []
  | f + 1, l, a => if l = [] then .ok [] else match stepR l with
    | .skip k => lexF f (l.drop k) (a + k)
    | .tok t => (lexF f (l.drop t.len) (a + t.len)).cons ⟨t.kind, a, l.take t.len, t.val⟩
    | .bad e => .bad a e
def lexG (l : List UInt8) (a : Nat) : Res := lexF l.length l a
theorem index_fits (l p : List UInt8) (h : 0 ≤ Lib.index l p) : Lib.index l p + p.length ≤ l.length := by
  induction l with
  | nil =>
    unfold Lib.index at h ⊢
    split at h
    · rename_i e; rw [if_pos e]; rw [List.isEmpty_iff] at e; simp [e]
    · omega
  | cons b l ih =>
    unfold Lib.index at h ⊢
    split at h
    · rename_i e; rw [if_pos e]; have := (List.isPrefixOf_iff_prefix.1 e).length_le; omega
    · rename_i e; rw [if_neg e]
      split at h
      · omega
      · rename_i e2; rw [if_neg e2]
        have b1 := index_le l p
        have : Lib.index l p ≠ -1 := by simpa using e2
        have := ih (by omega)
        simp; omega
theorem note_len {l : List UInt8} (h : isNote l = true) : 2 ≤ l.length := by
  unfold isNote at h
  rw [Bool.or_eq_true] at h
  rcases h with h | h <;> simpa using hp_len h
theorem comment_len (l : List UInt8) (h : 2 ≤ l.length) : 0 ≤ commentR l ∧ commentR l ≤ l.length := by
  have b1 := index_le (l.drop 2) [42, 47]
  have b2 := index_le (l.drop 2) [10]
  unfold commentR
  split
  · split
    · omega
    · have := index_fits (l.drop 2) [42, 47] (by omega)
      simp at this; omega
  · split
    · omega
    · have := index_fits (l.drop 2) [10] (by omega)
      simp at this; omega
theorem headD_len {l : List UInt8} (h : l ≠ []) : 0 < l.length := List.length_pos_iff.2 h
theorem word_len (l : List UInt8) (h : isLet (hd l) = true) (h0 : 0 < l.length) (he : (wordR l).err = 0) : 1 ≤ (wordR l).len ∧ (wordR l).len ≤ l.length := by
  have h1 := pfx_pos isWb l (by unfold isWb; rw [Bool.or_eq_true]; exact Or.inl h) h0
  have h2 := pfx_le isWb l
  unfold wordR at he ⊢
  split
  · rename_i e; rw [if_pos e] at he; simp [Tk.bad] at he
  · split <;> exact ⟨h1, h2⟩
theorem num_len (l : List UInt8) (h : isDig (hd l) = true) (h0 : 0 < l.length) (he : (numberR l).err = 0) : 1 ≤ (numberR l).len ∧ (numberR l).len ≤ l.length := by
  have hs : 1 ≤ (spanR l).stop ∧ (spanR l).stop ≤ l.length := by
    unfold spanR
    split
    · exact ⟨pfx_pos isDig l h h0, pfx_le isDig l⟩
    · split
      · rename_i hx
        obtain ⟨a1, a2, a3⟩ := hexD_pos hx
        have hp := pfx_le isHx (l.drop 2)
        rw [List.length_drop] at hp
        exact ⟨by show 1 ≤ 2 + _; omega, by show 2 + _ ≤ _; omega⟩
      · exact ⟨Nat.le_refl _, h0⟩
  unfold numberR at he ⊢
  split
  · rename_i e; rw [if_pos e] at he; simp [Tk.bad] at he
  · rename_i e
    rw [if_neg e] at he
    split
    · rename_i e; rw [if_pos e] at he; simp [Tk.bad] at he
    · exact hs
theorem char_len (l : List UInt8) (he : (charR l).err = 0) : 1 ≤ (charR l).len ∧ (charR l).len ≤ l.length := by
  match l with
  | a :: b :: c :: r =>
    simp only [charR] at he ⊢
    split
    · simp
    · rename_i e; rw [if_neg e] at he; simp [Tk.bad] at he
  | [] => simp [charR, Tk.bad] at he
  | [a] => simp [charR, Tk.bad] at he
  | [a, b] => simp [charR, Tk.bad] at he
theorem opL_len : ∀ o ∈ opL, 1 ≤ o.length := by decide
theorem sign_len (l : List UInt8) (he : (signR l).err = 0) : 1 ≤ (signR l).len ∧ (signR l).len ≤ l.length := by
  unfold signR at he ⊢
  split
  · rename_i o ho
    exact ⟨opL_len o (List.mem_of_find?_eq_some ho), hp_len (List.find?_some ho)⟩
  · rename_i ho; simp [ho, Tk.bad] at he
theorem tok_len (l : List UInt8) (h0 : 0 < l.length) (he : (tokR l).err = 0) : 1 ≤ (tokR l).len ∧ (tokR l).len ≤ l.length := by
  unfold tokR at he ⊢
  split
  · rename_i h; rw [if_pos h] at he; exact word_len l h h0 he
  · rename_i h; rw [if_neg h] at he
    split
    · rename_i h; rw [if_pos h] at he; exact num_len l h h0 he
    · rename_i h; rw [if_neg h] at he
      split
      · rename_i h; rw [if_pos h] at he; exact char_len l he
      · rename_i h; rw [if_neg h] at he; exact sign_len l he
theorem lexF_more (f : Nat) : ∀ (l : List UInt8) (a : Nat), l.length ≤ f → lexF f l a = lexF l.length l a := by
  induction f using Nat.strongRecOn with
  | _ f ih =>
    intro l a hl
    cases l with
    | nil => cases f with
      | zero => rfl
      | succ f => simp [lexF]
    | cons b r =>
      cases f with
      | zero => simp at hl
      | succ f =>
        simp only [List.length_cons] at hl ⊢
        have hne : b :: r ≠ [] := by simp
        have key : ∀ k, 1 ≤ k → ∀ a', lexF f ((b :: r).drop k) a' = lexF r.length ((b :: r).drop k) a' := by
          intro k hk a'
          have hlen : ((b :: r).drop k).length ≤ r.length := by simp; omega
          rw [ih f (by omega) _ a' (by omega)]
          by_cases e : r.length = f
          · rw [e, ih f (by omega) _ a' (by omega)]
          · rw [ih r.length (by omega) _ a' hlen]
        simp only [lexF, if_neg hne]
        cases hs : stepR (b :: r) with
        | skip k =>
          refine key k ?_ _
          unfold stepR at hs
          split at hs
          · cases hs; omega
          · split at hs
            · rename_i hn
              split at hs
              · cases hs
              · rename_i hc
                have := comment_len _ (note_len hn)
                cases hs; omega
            · split at hs <;> cases hs
        | tok t =>
          simp only
          rw [key t.len]
          unfold stepR at hs
          split at hs
          · cases hs
          · split at hs
            · split at hs <;> cases hs
            · split at hs
              · rename_i he; cases hs; exact (tok_len _ (by simp) he).1
              · cases hs
        | bad e => rfl
/-- The equation of lexG. -/
theorem lexG_eq (l : List UInt8) (a : Nat) (h : l ≠ []) : lexG l a = match stepR l with
    | .skip k => lexG (l.drop k) (a + k)
    | .tok t => (lexG (l.drop t.len) (a + t.len)).cons ⟨t.kind, a, l.take t.len, t.val⟩
    | .bad e => .bad a e := by
  have hl := headD_len h
  have e : lexG l a = lexF (l.length + 1) l a := (lexF_more (l.length + 1) l a (by omega)).symm
  have m : ∀ k a', lexF l.length (l.drop k) a' = lexG (l.drop k) a' := fun k a' => lexF_more l.length _ a' (by simp)
  rw [e]
  simp only [lexF, if_neg h, m]
theorem lexG_nil (a : Nat) : lexG [] a = .ok [] := rfl
theorem pre_cons (acc : List T4) (t : T4) (r : Res) : Res.pre acc (r.cons t) = Res.pre (acc ++ [t]) r := by
  cases r <;> simp [Res.pre, Res.cons]
theorem pre_nil (r : Res) : Res.pre [] r = r := by cases r <;> rfl
end Go.Proofs.YthbhlmkgbinegaaDoor
