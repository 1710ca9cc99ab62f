/- Merged: N4, P2, T3. -/
import Derived.Test.YtkbplcfehllbjaaGreatDoorMk17
import Derived.OwnWalk
import Derived.Laws.OwnMore
import Derived.Deep.LoopGhost
import Derived.OneCell
import Derived.Laws.Rows
import Derived.Deep.DeepCutAuto
/- lex.number: whatever the digits. -/
namespace Go.Proofs.YtkbplcfehllbjaaGreatDoor
open Go.RowKit
theorem pfx_pos (p : Int → Bool) (l : List UInt8) (h : p ((l.headD 0).toNat : Nat) = true) (h0 : 0 < l.length) : 0 < pfx p l := by
  cases l with
  | nil => simp at h0
  | cons b l => simp at h; simp [pfx, h]
theorem numberR_any (s : ByteArray) (w : World) (hs : s.size ≤ 20000) (h0 : 0 < s.size) (hdig : isDig (s[0].toNat : Nat) = true) (hv : Vars w) :
    Calls Tryz.prog 26 #[.string s] w fun e w' => e = .returned (tokV s (numberR s.data.toList)) ∧ Below w.heap.size w w' := by
  have hlen : s.data.toList.length = s.size := by simp
  have hh := headD_bytes s h0
  by_cases hc : s[0] = 48
  · have hc' : (s[0].toNat : Int) = 48 := by rw [hc]; rfl
    by_cases hx : 0 < hexD s.data.toList
    · have hsp : spanR s.data.toList = ⟨2, 2 + hexD s.data.toList, 16⟩ := by unfold spanR; rw [if_neg (by rw [hh, hc]; decide), if_pos hx]
      obtain ⟨a1, a2, a3⟩ := hexD_pos hx
      have hp := pfx_le isHx (s.data.toList.drop 2)
      rw [List.length_drop] at hp
      refine number_hex s w hs hv (hexD s.data.toList) rfl hx (by omega) hc' ?_ ?_
      · show ∀ c ∈ _, _
        intro c hc
        have : c ∈ (s.data.toList.drop 2).take (hexD s.data.toList) := by
          rw [List.drop_take] at hc
          rwa [show 2 + hexD s.data.toList - 2 = hexD s.data.toList by omega] at hc
        have := take_all isHx _ _ a2 c this
        simpa [okDig] using this
      · show numberR _ = _
        simp only [numberR, hsp]
    · have hsp : spanR s.data.toList = ⟨0, 1, 10⟩ := by unfold spanR; rw [if_neg (by rw [hh, hc]; decide), if_neg hx]
      refine number_zero s w hs hv (by show _ = _; omega) (by omega) hc' ?_ ?_
      · show ∀ c ∈ _, _
        intro c hc2
        rw [List.drop_zero] at hc2
        have := take_all isDig s.data.toList 1 (pfx_pos _ _ (by rw [hh]; exact hdig) (by omega)) c hc2
        simp [isDig] at this
        simp [okDig]; omega
      · show numberR _ = _
        simp only [numberR, hsp]
  · have hc' : ¬ (s[0].toNat : Int) = 48 := by
      intro e; exact hc (UInt8.toNat_inj.1 (by have : (48 : UInt8).toNat = 48 := rfl; omega))
    have hsp : spanR s.data.toList = ⟨0, pfx isDig s.data.toList, 10⟩ := by
      unfold spanR; rw [if_pos]; rw [hh]; exact hc
    have hle := pfx_le isDig s.data.toList
    refine number_dec s w hs hv (pfx isDig s.data.toList) rfl (pfx_pos _ _ (by rw [hh]; exact hdig) (by omega)) (by omega) hc' ?_ ?_
    · show ∀ c ∈ _, _
      intro c hc2
      rw [List.drop_zero] at hc2
      have := take_all isDig s.data.toList _ (Nat.le_refl _) c hc2
      simp [isDig] at this
      simp [okDig]; omega
    · show numberR _ = _
      simp only [numberR, hsp]
end Go.Proofs.YtkbplcfehllbjaaGreatDoor
/- Plain: all tokens of a list of bytes. -/
namespace Go.Proofs.YtkbplcfehllbjaaGreatDoor
inductive Res where
  | ok (l : List T4)
  | bad (pos : Nat) (e : Int)
inductive Stp where
  | skip (k : Nat)
  | tok (t : Tk)
  | bad (e : Int)
def hd (l : List UInt8) : Int := ((l.headD 0).toNat : Nat)
def isNote (l : List UInt8) : Bool := Lib.hasPrefix l [47, 47] || Lib.hasPrefix l [47, 42]
def tokR (l : List UInt8) : Tk := if isLet (hd l) = true then wordR l else if isDig (hd l) = true then numberR l else if hd l = 39 then charR l else signR l
def stepR (l : List UInt8) : Stp :=
  if isSp (hd l) = true then .skip 1
  else if isNote l = true then (if commentR l = 0 then .bad 2 else .skip (commentR l).toNat)
  else if (tokR l).err = 0 then .tok (tokR l) else .bad (tokR l).err
def Res.cons (t : T4) : Res → Res
  | .ok l => .ok (t :: l)
  | .bad p e => .bad p e
def Res.pre (acc : List T4) : Res → Res
  | .ok l => .ok (acc ++ l)
  | .bad p e => .bad p e
def lexF : Nat → List UInt8 → Nat → Res
  | 0, _, _ => .ok []
  | f + 1, l, a => if l = [] then .ok [] else match stepR l with
    | .skip k => lexF f (l.drop k) (a + k)
    | .tok t => (lexF f (l.drop t.len) (a + t.len)).cons ⟨t.kind, a, l.take t.len, t.val⟩
    | .bad e => .bad a e
def lexG (l : List UInt8) (a : Nat) : Res := lexF l.length l a
theorem index_fits (l p : List UInt8) (h : 0 ≤ Lib.index l p) : Lib.index l p + p.length ≤ l.length := by
  induction l with
  | nil =>
    unfold Lib.index at h ⊢
    split at h
    · rename_i e; rw [if_pos e]; rw [List.isEmpty_iff] at e; simp [e]
    · omega
  | cons b l ih =>
    unfold Lib.index at h ⊢
    split at h
    · rename_i e; rw [if_pos e]; have := (List.isPrefixOf_iff_prefix.1 e).length_le; omega
    · rename_i e; rw [if_neg e]
      split at h
      · omega
      · rename_i e2; rw [if_neg e2]
        have b1 := index_le l p
        have : Lib.index l p ≠ -1 := by simpa using e2
        have := ih (by omega)
        simp; omega
theorem note_len {l : List UInt8} (h : isNote l = true) : 2 ≤ l.length := by
  unfold isNote at h
  rw [Bool.or_eq_true] at h
  rcases h with h | h <;> simpa using hp_len h
theorem comment_len (l : List UInt8) (h : 2 ≤ l.length) : 0 ≤ commentR l ∧ commentR l ≤ l.length := by
  have b1 := index_le (l.drop 2) [42, 47]
  have b2 := index_le (l.drop 2) [10]
  unfold commentR
  split
  · split
    · omega
    · have := index_fits (l.drop 2) [42, 47] (by omega)
      simp at this; omega
  · split
    · omega
    · have := index_fits (l.drop 2) [10] (by omega)
      simp at this; omega
theorem headD_len {l : List UInt8} (h : l ≠ []) : 0 < l.length := List.length_pos_iff.2 h
theorem word_len (l : List UInt8) (h : isLet (hd l) = true) (h0 : 0 < l.length) (he : (wordR l).err = 0) : 1 ≤ (wordR l).len ∧ (wordR l).len ≤ l.length := by
  have h1 := pfx_pos isWb l (by unfold isWb; rw [Bool.or_eq_true]; exact Or.inl h) h0
  have h2 := pfx_le isWb l
  unfold wordR at he ⊢
  split
  · rename_i e; rw [if_pos e] at he; simp [Tk.bad] at he
  · split <;> exact ⟨h1, h2⟩
theorem num_len (l : List UInt8) (h : isDig (hd l) = true) (h0 : 0 < l.length) (he : (numberR l).err = 0) : 1 ≤ (numberR l).len ∧ (numberR l).len ≤ l.length := by
  have hs : 1 ≤ (spanR l).stop ∧ (spanR l).stop ≤ l.length := by
    unfold spanR
    split
    · exact ⟨pfx_pos isDig l h h0, pfx_le isDig l⟩
    · split
      · rename_i hx
        obtain ⟨a1, a2, a3⟩ := hexD_pos hx
        have hp := pfx_le isHx (l.drop 2)
        rw [List.length_drop] at hp
        exact ⟨by show 1 ≤ 2 + _; omega, by show 2 + _ ≤ _; omega⟩
      · exact ⟨Nat.le_refl _, h0⟩
  unfold numberR at he ⊢
  split
  · rename_i e; rw [if_pos e] at he; simp [Tk.bad] at he
  · rename_i e
    rw [if_neg e] at he
    split
    · rename_i e; rw [if_pos e] at he; simp [Tk.bad] at he
    · exact hs
theorem char_len (l : List UInt8) (he : (charR l).err = 0) : 1 ≤ (charR l).len ∧ (charR l).len ≤ l.length := by
  match l with
  | a :: b :: c :: r =>
    simp only [charR] at he ⊢
    split
    · simp
    · rename_i e; rw [if_neg e] at he; simp [Tk.bad] at he
  | [] => simp [charR, Tk.bad] at he
  | [a] => simp [charR, Tk.bad] at he
  | [a, b] => simp [charR, Tk.bad] at he
theorem opL_len : ∀ o ∈ opL, 1 ≤ o.length := by decide
theorem sign_len (l : List UInt8) (he : (signR l).err = 0) : 1 ≤ (signR l).len ∧ (signR l).len ≤ l.length := by
  unfold signR at he ⊢
  split
  · rename_i o ho
    exact ⟨opL_len o (List.mem_of_find?_eq_some ho), hp_len (List.find?_some ho)⟩
  · rename_i ho; simp [ho, Tk.bad] at he
theorem tok_len (l : List UInt8) (h0 : 0 < l.length) (he : (tokR l).err = 0) : 1 ≤ (tokR l).len ∧ (tokR l).len ≤ l.length := by
  unfold tokR at he ⊢
  split
  · rename_i h; rw [if_pos h] at he; exact word_len l h h0 he
  · rename_i h; rw [if_neg h] at he
    split
    · rename_i h; rw [if_pos h] at he; exact num_len l h h0 he
    · rename_i h; rw [if_neg h] at he
      split
      · rename_i h; rw [if_pos h] at he; exact char_len l he
      · rename_i h; rw [if_neg h] at he; exact sign_len l he
theorem lexF_more (f : Nat) : ∀ (l : List UInt8) (a : Nat), l.length ≤ f → lexF f l a = lexF l.length l a := by
  induction f using Nat.strongRecOn with
  | _ f ih =>
    intro l a hl
    cases l with
    | nil => cases f with
      | zero => rfl
      | succ f => simp [lexF]
    | cons b r =>
      cases f with
      | zero => simp at hl
      | succ f =>
        simp only [List.length_cons] at hl ⊢
        have hne : b :: r ≠ [] := by simp
        have key : ∀ k, 1 ≤ k → ∀ a', lexF f ((b :: r).drop k) a' = lexF r.length ((b :: r).drop k) a' := by
          intro k hk a'
          have hlen : ((b :: r).drop k).length ≤ r.length := by simp; omega
          rw [ih f (by omega) _ a' (by omega)]
          by_cases e : r.length = f
          · rw [e, ih f (by omega) _ a' (by omega)]
          · rw [ih r.length (by omega) _ a' hlen]
        simp only [lexF, if_neg hne]
        cases hs : stepR (b :: r) with
        | skip k =>
          refine key k ?_ _
          unfold stepR at hs
          split at hs
          · cases hs; omega
          · split at hs
            · rename_i hn
              split at hs
              · cases hs
              · rename_i hc
                have := comment_len _ (note_len hn)
                cases hs; omega
            · split at hs <;> cases hs
        | tok t =>
          simp only
          rw [key t.len]
          unfold stepR at hs
          split at hs
          · cases hs
          · split at hs
            · split at hs <;> cases hs
            · split at hs
              · rename_i he; cases hs; exact (tok_len _ (by simp) he).1
              · cases hs
        | bad e => rfl
/-- The equation of lexG. -/
theorem lexG_eq (l : List UInt8) (a : Nat) (h : l ≠ []) : lexG l a = match stepR l with
    | .skip k => lexG (l.drop k) (a + k)
    | .tok t => (lexG (l.drop t.len) (a + t.len)).cons ⟨t.kind, a, l.take t.len, t.val⟩
    | .bad e => .bad a e := by
  have hl := headD_len h
  have e : lexG l a = lexF (l.length + 1) l a := (lexF_more (l.length + 1) l a (by omega)).symm
  have m : ∀ k a', lexF l.length (l.drop k) a' = lexG (l.drop k) a' := fun k a' => lexF_more l.length _ a' (by simp)
  rw [e]
  simp only [lexF, if_neg h, m]
theorem lexG_nil (a : Nat) : lexG [] a = .ok [] := rfl
theorem pre_cons (acc : List T4) (t : T4) (r : Res) : Res.pre acc (r.cons t) = Res.pre (acc ++ [t]) r := by
  cases r <;> simp [Res.pre, Res.cons]
theorem preL_nil (r : Res) : Res.pre [] r = r := by cases r <;> rfl
end Go.Proofs.YtkbplcfehllbjaaGreatDoor
/- lex.Tokens. -/
namespace Go.Proofs.YtkbplcfehllbjaaGreatDoor
open Go.RowKit
def cells4 (t : T4) : List Value := [.int .i64 t.kind, .int .i64 t.pos, .string ⟨t.text.toArray⟩, .int .i64 t.val]
def cellsOf (l : List T4) : List Value := l.flatMap cells4
theorem tclone_any (s : ByteArray) (w : World) (hlim : s.size ≤ 20000) :
    Calls Tryz.prog 19 #[.string s] w fun e w' => e = .returned (.string s) ∧ Below w.heap.size w w' := by
  go_enter Tryz.func19, Tryz.ntmps19
  go_wp2_with fail
  refine (Tryz.stringslite_Clone s _ (by omega)).mono ?_
  rintro e w' ⟨rfl, hB⟩
  go_wp2_with fail
  go_ret
  exact ⟨rfl, hB⟩
theorem hd_bytes (r : ByteArray) (h : 0 < r.size) : hd r.data.toList = (r[0].toNat : Nat) := by unfold hd; rw [headD_bytes r h]
theorem sp_is (b : Bool) (c : Int) (w : World) (h : isSp c = b) : Calls Tryz.prog 20 #[.int .u8 c] w fun e w' => e = .returned (.bool b) ∧ w = w' := by
  subst h; exact isSpace_any c w
theorem lt_is (b : Bool) (c : Int) (w : World) (h : isLet c = b) : Calls Tryz.prog 23 #[.int .u8 c] w fun e w' => e = .returned (.bool b) ∧ w = w' := by
  subst h; exact isLetter_any c w
theorem dg_is (b : Bool) (c : Int) (w : World) (h : isDig c = b) : Calls Tryz.prog 25 #[.int .u8 c] w fun e w' => e = .returned (.bool b) ∧ w = w' := by
  subst h; exact isDigit_any c w
theorem cm_is (n : Int) (r : ByteArray) (w : World) (hs : r.size ≤ 20000) (h2 : 2 ≤ r.size) (hv : Vars w) (h : commentR r.data.toList = n) : Calls Tryz.prog 22 #[.string r] w fun e w' => e = .returned (.int .i64 n) ∧ w = w' := by
  subst h; exact comment_any r w (by omega) h2 hv
/-- a call that makes a token: it fails, or it gives one. -/
def MakesBad (f : Nat) (r : ByteArray) (er : Int) : Prop := ∀ w, Vars w → Calls Tryz.prog f #[.string r] w fun e w' => e = .returned (.tuple #[.agg #[.int .i64 0, .int .i64 0, .string ⟨#[]⟩, .int .i64 0], .int .i64 er]) ∧ Below w.heap.size w w'
def Makes (f : Nat) (r : ByteArray) (kd : Int) (tx : ByteArray) (vl : Int) : Prop := ∀ w, Vars w → Calls Tryz.prog f #[.string r] w fun e w' => e = .returned (.tuple #[.agg #[.int .i64 kd, .int .i64 0, .string tx, .int .i64 vl], .int .i64 0]) ∧ Below w.heap.size w w'
theorem ownsRow_below {w w' : World} {base B : Nat} {e : TypeId} {size : Nat} {v : Value} {n : Nat} {xs : List Value} (h : w.ownsRow base e size v n xs) (hb : Below B w w') (hB : w.heap.size ≤ B) : w'.ownsRow base e size v n xs := by
  obtain ⟨h1, h2⟩ := h
  refine ⟨h1, ?_⟩
  rcases h2 with h2 | ⟨g, cap, cur, hv, hg, hh, r⟩
  · exact Or.inl h2
  · refine Or.inr ⟨g, cap, cur, hv, hg, ?_, r⟩
    have hlt : g < w.heap.size := by
      rcases Nat.lt_or_ge g w.heap.size with h | h
      · exact h
      · rw [Array.getElem?_eq_none h] at hh; cases hh
    rw [hb.block g (by omega)]; exact hh
theorem info49 : (Tryz.prog.info? 49).map (fun i => (i.zero, i.size, i.bytes)) = some (some (.agg #[.int .i64 0, .int .i64 0, .string ⟨#[]⟩, .int .i64 0]), 4, 40) := by kernel_rfl
/-- the block of a token: its four cells; nothing else has turned. -/
def W4 (w : World) (b : Nat) (kd : Int) (tx : ByteArray) (vl : Int) : World := (((w.setCell ⟨b, 0, none⟩ (.int .i64 kd)).setCell ⟨b, 1, none⟩ (.int .i64 0)).setCell ⟨b, 2, none⟩ (.string tx)).setCell ⟨b, 3, none⟩ (.int .i64 vl)
theorem setCell_heap (w : World) (b o : Nat) (cs : Array Value) (t : TypeId) (fr : Nat × Nat) (u : Value) (h : w.heap[b]? = some (.cells cs t fr)) : (w.setCell ⟨b, o, none⟩ u).heap[b]? = some (.cells (cs.setIfInBounds o u) t fr) := by
  simp [World.setCell, Array.getElem?_modify, h]
theorem W4_heap (w : World) (b : Nat) (kd : Int) (tx : ByteArray) (vl : Int) (v0 v1 v2 v3 : Value) (h : w.heap[b]? = some (.cells #[v0, v1, v2, v3] 49 (0, 0))) : (W4 w b kd tx vl).heap[b]? = some (.cells #[.int .i64 kd, .int .i64 0, .string tx, .int .i64 vl] 49 (0, 0)) := by
  have h1 := setCell_heap w b 0 _ _ _ (.int .i64 kd) h
  have h2 := setCell_heap _ b 1 _ _ _ (.int .i64 0) h1
  have h3 := setCell_heap _ b 2 _ _ _ (.string tx) h2
  exact setCell_heap _ b 3 _ _ _ (.int .i64 vl) h3
theorem W4_below (w0 w : World) (B b : Nat) (hb : B ≤ b) (kd : Int) (tx : ByteArray) (vl : Int) (h : Below B w0 w) : Below B w0 (W4 w b kd tx vl) := (((h.setCell hb _).setCell hb _).setCell hb _).setCell hb _
theorem own_other {wr : World} {base : Nat} {e : TypeId} {size : Nat} {v : Value} {n : Nat} {xs : List Value} (h : wr.ownsRow base e size v n xs) : v.ownBlock ≠ some (⟨wr.heap.size, 1, none⟩ : Addr).block := by
  intro e
  have := (h.lt wr.heap.size e).2
  omega
theorem own_ne {wr : World} {base : Nat} {e : TypeId} {size : Nat} {v : Value} {n o : Nat} {xs : List Value} (h : wr.ownsRow base e size v n xs) : some (⟨wr.heap.size, o, none⟩ : Addr).block ≠ v.ownBlock := by
  intro e
  have := (h.lt wr.heap.size e.symm).2
  omega
theorem cells_new (W : World) (l : List Value) (t : TypeId) (fr : Nat × Nat) : ∀ (j : Nat) (u : Value), l[j]? = some u → (W.alloc (.cells l.toArray t fr)).cell? ((⟨W.heap.size, 0, none⟩ : Addr).add j) = some u := by
  intro j u h
  have hadd : (⟨W.heap.size, 0, none⟩ : Addr).add j = ⟨W.heap.size, j, none⟩ := by unfold Addr.add; split <;> simp_all
  rw [hadd, cell_of_row _ W.heap.size j l.toArray t fr (by show (W.heap.push _)[W.heap.size]? = _; simp)]
  simpa using h
theorem new_heap {wr w2 : World} {o : Obj} (h : Below (wr.alloc o).heap.size (wr.alloc o) w2) : w2.heap[wr.heap.size]? = some o := by
  rw [h.block wr.heap.size (by simp)]; show (wr.heap.push o)[wr.heap.size]? = some o; simp
def TokPost (w : World) (r : Res) (e : Ending) (w' : World) : Prop :=
  Below w.heap.size w w' ∧ match r with
  | .ok l => ∃ v, e = .returned (.tuple #[v, .int .i64 0, .int .i64 0]) ∧ w'.ownsRow w.heap.size 49 4 v l.length (cellsOf l)
  | .bad p er => e = .returned (.tuple #[.slice none 0 0, .int .i64 p, .int .i64 er])
def tokensR (l : List UInt8) : Res := if 20000 < l.length then .bad 0 5 else lexG l 0
theorem word_badE (l : List UInt8) (h : (wordR l).err ≠ 0) : wordR l = Tk.bad (wordR l).err := by
  unfold wordR at h ⊢
  split
  · rfl
  · rename_i e; rw [if_neg e] at h; split at h <;> simp at h
theorem num_badE (l : List UInt8) (h : (numberR l).err ≠ 0) : numberR l = Tk.bad (numberR l).err := by
  unfold numberR at h ⊢
  split
  · rfl
  · rename_i e
    rw [if_neg e] at h
    split
    · rfl
    · rename_i e; rw [if_neg e] at h; simp at h
theorem char_badE (l : List UInt8) (h : (charR l).err ≠ 0) : charR l = Tk.bad (charR l).err := by
  match l with
  | a :: b :: c :: r =>
    simp only [charR] at h ⊢
    split
    · rename_i e; rw [if_pos e] at h; simp at h
    · rfl
  | [] => rfl
  | [a] => rfl
  | [a, b] => rfl
theorem sign_badE (l : List UInt8) (h : (signR l).err ≠ 0) : signR l = Tk.bad (signR l).err := by
  unfold signR at h ⊢
  split
  · rename_i o e; simp [e] at h
  · rfl
theorem makes_of {f : Nat} {r : ByteArray} {t : Tk} (h : ∀ w, Vars w → Calls Tryz.prog f #[.string r] w fun e w' => e = .returned (tokV r t) ∧ Below w.heap.size w w') (he : t.err = 0) : Makes f r t.kind (r.extract 0 t.len) t.val := by
  intro w hv
  refine (h w hv).mono fun e w' ⟨h1, h2⟩ => ⟨?_, h2⟩
  rw [h1, tokV, he]
theorem makesBad_of {f : Nat} {r : ByteArray} {t : Tk} (h : ∀ w, Vars w → Calls Tryz.prog f #[.string r] w fun e w' => e = .returned (tokV r t) ∧ Below w.heap.size w w') (hb : t = Tk.bad t.err) : MakesBad f r t.err := by
  intro w hv
  refine (h w hv).mono fun e w' ⟨h1, h2⟩ => ⟨?_, h2⟩
  rw [h1, hb, tokV_bad]; rfl
theorem step_sp {R : List UInt8} {k : Nat} (hR : R ≠ []) (h : isSp (hd R) = true) : lexG R k = lexG (R.drop 1) (k + 1) := by
  rw [lexG_eq R k hR]; simp [stepR, h]
theorem step_note0 {R : List UInt8} {k : Nat} (hR : R ≠ []) (h : isSp (hd R) = false) (hn : isNote R = true) (h0 : commentR R = 0) : lexG R k = .bad k 2 := by
  rw [lexG_eq R k hR]; simp [stepR, h, hn, h0]
theorem step_note {R : List UInt8} {k : Nat} (hR : R ≠ []) (h : isSp (hd R) = false) (hn : isNote R = true) (n : Nat) (h1 : 1 ≤ n) (h0 : commentR R = n) : lexG R k = lexG (R.drop n) (k + n) := by
  rw [lexG_eq R k hR]
  have : ¬ (n : Int) = 0 := by omega
  simp only [stepR, h, hn, h0, if_neg this]
  simp
theorem step_bad {R : List UInt8} {k : Nat} (hR : R ≠ []) (h : isSp (hd R) = false) (hn : isNote R = false) (h0 : (tokR R).err ≠ 0) : lexG R k = .bad k (tokR R).err := by
  rw [lexG_eq R k hR]; simp [stepR, h, hn, h0]
theorem step_tok {R : List UInt8} {k : Nat} (hR : R ≠ []) (h : isSp (hd R) = false) (hn : isNote R = false) (h0 : (tokR R).err = 0) : lexG R k = (lexG (R.drop (tokR R).len) (k + (tokR R).len)).cons ⟨(tokR R).kind, k, R.take (tokR R).len, (tokR R).val⟩ := by
  rw [lexG_eq R k hR]; simp [stepR, h, hn, h0]
theorem cellsOf_snoc (acc : List T4) (t : T4) : cellsOf (acc ++ [t]) = cellsOf acc ++ cells4 t := by simp [cellsOf]
theorem pre_bad (acc : List T4) (p : Nat) (e : Int) : Res.pre acc (.bad p e) = .bad p e := rfl
set_option maxRecDepth 100000 in
set_option maxHeartbeats 1000000 in
theorem tokens_long (s : ByteArray) (w : World) (hs : 20000 < s.size) :
    Calls Tryz.prog 14 #[.string s] w (TokPost w (tokensR s.data.toList)) := by
  have hr : tokensR s.data.toList = .bad 0 5 := by unfold tokensR; rw [if_pos (by simpa using hs)]
  rw [hr]
  go_enter Tryz.func14, Tryz.ntmps14
  go_wp2_with fail
  go_step3
  go_wp2_with fail
  rw [Exit.noGoto_ret]
  go_ret3
  exact ⟨Below.refl _ _, rfl⟩
set_option maxRecDepth 100000 in
set_option maxHeartbeats 16000000 in
theorem tokens_short (s : ByteArray) (w : World) (hs : s.size ≤ 20000) (hv : Vars w) :
    Calls Tryz.prog 14 #[.string s] w (TokPost w (lexG s.data.toList 0)) := by
  have HV := Lib.hid hv
  clear hv
  go_enter Tryz.func14, Tryz.ntmps14
  go_wp2_with fail
  go_step3
  go_wp2_with fail
  refine (tclone_any s _ hs).mono ?_
  rintro e w1 ⟨rfl, hB⟩
  have HV1 := Lib.hid (HV.out.below hB HV.out.size)
  have HB := Lib.hid hB
  clear hB
  go_wp2_with fail
  go_step3
  go_wp2_with fail
  go_loopw [5, 6, 7] (fun v i e wr => ∃ (k : Nat) (acc : List T4), k ≤ s.size ∧ i = .int .i64 k ∧ e = .int .i64 0 ∧ Hid (acc.length ≤ k) ∧ Hid (wr.ownsRow w.heap.size 49 4 v acc.length (cellsOf acc)) ∧ Hid (Below w.heap.size w wr) ∧ Hid (Vars wr) ∧ Hid (lexG s.data.toList 0 = Res.pre acc (lexG (s.data.toList.drop k) k)))
    (fun _ i _ _ => s.size - (intOf i).toNat)
  case atStart => exact ⟨0, [], Nat.zero_le _, rfl, rfl, Nat.le_refl _, World.ownsRow_nil _ _ _ _, HB.out, HV1.out, by show _ = _; rw [preL_nil]; rfl⟩
  case round =>
    obtain ⟨k, acc, hk, rfl, rfl, hal, hown, hB, hVr, hG⟩ := hrel
    by_cases hlt : k < s.size
    · have hp : 0 < (s.extract k s.size).size := by simp; omega
      have hsz : (s.extract k s.size).size ≤ 20000 := by simp; omega
      have hdr : (s.extract k s.size).data.toList = s.data.toList.drop k := ext_drop s k
      obtain ⟨R, hRR⟩ : ∃ R, s.data.toList.drop k = R := ⟨_, rfl⟩
      have hRdrop : ∀ n, R.drop n = s.data.toList.drop (k + n) := fun n => by rw [← hRR, List.drop_drop]
      rw [hRR] at hdr hG
      have hhd : hd R = ((s.extract k s.size)[0].toNat : Nat) := by rw [← hdr]; exact hd_bytes _ hp
      have hRne : R ≠ [] := by
        intro e; rw [← hRR] at e; have := congrArg List.length e; simp at this; omega
      clear hRR
      cases hsp : isSp ((s.extract k s.size)[0].toNat : Nat) with
      | true =>
        have hspR : isSp (hd R) = true := by rw [hhd]; exact hsp
        have HSP := Lib.hid hsp
        have HG := Lib.hid ((hG.out).trans (by rw [step_sp hRne hspR, hRdrop]))
        clear hsp hspR hG hRne hhd hdr hRdrop
        go_wp2_with fail
        refine (sp_is true _ _ HSP.out).mono ?_
        rintro e w' ⟨rfl, rfl⟩
        go_wp2_with fail
        refine ⟨⟨k + 1, acc, by omega, by go_num, rfl, ?_, hown.out.alloc _, hB.out.alloc hB.out.size _, hVr.out.alloc _, HG.out⟩, by simp [intOf]; omega⟩
        show _ ≤ _; have := hal.out; omega
      | false =>
      have hspR : isSp (hd R) = false := by rw [hhd]; exact hsp
      have HSP := Lib.hid hsp
      cases hn1 : Lib.hasPrefix (s.extract k s.size).data.toList [47, 47] with
      | true =>
        have hnote : isNote R = true := by unfold isNote; rw [← hdr, hn1]; rfl
        obtain ⟨hc0, hc1⟩ := comment_len R (note_len hnote)
        have hRl : R.length = s.size - k := by rw [← hdr]; simp
        have h2 : 2 ≤ (s.extract k s.size).size := by have := note_len hnote; rw [ext_size]; omega
        have HN1 := Lib.hid hn1
        obtain ⟨m, hm⟩ : ∃ m : Nat, commentR R = m := ⟨(commentR R).toNat, by omega⟩
        have HC : Hid (commentR (s.extract k s.size).data.toList = m) := by show _ = _; rw [hdr]; exact hm
        by_cases hm0 : m = 0
        · have HG := Lib.hid ((hG.out).trans (by rw [step_note0 hRne hspR hnote (by rw [hm, hm0]; rfl), pre_bad]))
          subst hm0
          clear hsp hspR hG hRne hhd hdr hRdrop hnote hc0 hc1 hRl hm hn1
          go_wp2_with fail
          refine (sp_is false _ _ HSP.out).mono ?_
          rintro e w' ⟨rfl, rfl⟩
          go_wp2_with fail
          refine (hp_is true _ _ _ HN1.out).mono ?_
          rintro e w' ⟨rfl, rfl⟩
          go_wp2_with fail
          refine (cm_is (0 : Nat) _ _ hsz h2 (hVr.out.alloc _) HC.out).mono ?_
          rintro e w' ⟨rfl, rfl⟩
          go_wp2_with fail
          rw [Exit.noGoto_ret]
          go_ret3
          exact ⟨hB.out.alloc hB.out.size _, by rw [HG.out]; exact rfl⟩
        · have HG := Lib.hid ((hG.out).trans (by rw [step_note hRne hspR hnote m (by omega) hm, hRdrop]))
          have hkm : k + m ≤ s.size := by omega
          have hm1 : 1 ≤ m := by omega
          clear hsp hspR hG hRne hhd hdr hRdrop hnote hc0 hc1 hRl hm hm0 hn1
          go_wp2_with fail
          refine (sp_is false _ _ HSP.out).mono ?_
          rintro e w' ⟨rfl, rfl⟩
          go_wp2_with fail
          refine (hp_is true _ _ _ HN1.out).mono ?_
          rintro e w' ⟨rfl, rfl⟩
          go_wp2_with fail
          refine (cm_is m _ _ hsz h2 (hVr.out.alloc _) HC.out).mono ?_
          rintro e w' ⟨rfl, rfl⟩
          go_wp2_with fail
          refine ⟨⟨k + m, acc, by omega, by go_num, rfl, ?_, hown.out.alloc _, hB.out.alloc hB.out.size _, hVr.out.alloc _, HG.out⟩, by simp [intOf]; omega⟩
          show _ ≤ _; have := hal.out; omega
      | false =>
      have HN1 := Lib.hid hn1
      cases hn2 : Lib.hasPrefix (s.extract k s.size).data.toList [47, 42] with
      | true =>
        have hnote : isNote R = true := by unfold isNote; rw [← hdr, hn1, hn2]; rfl
        obtain ⟨hc0, hc1⟩ := comment_len R (note_len hnote)
        have hRl : R.length = s.size - k := by rw [← hdr]; simp
        have h2 : 2 ≤ (s.extract k s.size).size := by have := note_len hnote; rw [ext_size]; omega
        have HN2 := Lib.hid hn2
        obtain ⟨m, hm⟩ : ∃ m : Nat, commentR R = m := ⟨(commentR R).toNat, by omega⟩
        have HC : Hid (commentR (s.extract k s.size).data.toList = m) := by show _ = _; rw [hdr]; exact hm
        by_cases hm0 : m = 0
        · have HG := Lib.hid ((hG.out).trans (by rw [step_note0 hRne hspR hnote (by rw [hm, hm0]; rfl), pre_bad]))
          subst hm0
          clear hsp hspR hG hRne hhd hdr hRdrop hnote hc0 hc1 hRl hm hn1 hn2
          go_wp2_with fail
          refine (sp_is false _ _ HSP.out).mono ?_
          rintro e w' ⟨rfl, rfl⟩
          go_wp2_with fail
          refine (hp_is false _ _ _ HN1.out).mono ?_
          rintro e w' ⟨rfl, rfl⟩
          go_wp2_with fail
          refine (hp_is true _ _ _ HN2.out).mono ?_
          rintro e w' ⟨rfl, rfl⟩
          go_wp2_with fail
          refine (cm_is (0 : Nat) _ _ hsz h2 (hVr.out.alloc _) HC.out).mono ?_
          rintro e w' ⟨rfl, rfl⟩
          go_wp2_with fail
          rw [Exit.noGoto_ret]
          go_ret3
          exact ⟨hB.out.alloc hB.out.size _, by rw [HG.out]; exact rfl⟩
        · have HG := Lib.hid ((hG.out).trans (by rw [step_note hRne hspR hnote m (by omega) hm, hRdrop]))
          have hkm : k + m ≤ s.size := by omega
          have hm1 : 1 ≤ m := by omega
          clear hsp hspR hG hRne hhd hdr hRdrop hnote hc0 hc1 hRl hm hm0 hn1 hn2
          go_wp2_with fail
          refine (sp_is false _ _ HSP.out).mono ?_
          rintro e w' ⟨rfl, rfl⟩
          go_wp2_with fail
          refine (hp_is false _ _ _ HN1.out).mono ?_
          rintro e w' ⟨rfl, rfl⟩
          go_wp2_with fail
          refine (hp_is true _ _ _ HN2.out).mono ?_
          rintro e w' ⟨rfl, rfl⟩
          go_wp2_with fail
          refine (cm_is m _ _ hsz h2 (hVr.out.alloc _) HC.out).mono ?_
          rintro e w' ⟨rfl, rfl⟩
          go_wp2_with fail
          refine ⟨⟨k + m, acc, by omega, by go_num, rfl, ?_, hown.out.alloc _, hB.out.alloc hB.out.size _, hVr.out.alloc _, HG.out⟩, by simp [intOf]; omega⟩
          show _ ≤ _; have := hal.out; omega
      | false =>
      have HN2 := Lib.hid hn2
      have hnote : isNote R = false := by unfold isNote; rw [← hdr, hn1, hn2]; rfl
      cases hl : isLet ((s.extract k s.size)[0].toNat : Nat) with
      | true =>
      have HL := Lib.hid hl
      have htR : tokR R = wordR R := by unfold tokR; rw [if_pos (by rw [hhd]; exact hl)]
      have hcon : ∀ w, Vars w → Calls Tryz.prog 24 #[.string (s.extract k s.size)] w fun e w' => e = .returned (tokV (s.extract k s.size) (tokR R)) ∧ Below w.heap.size w w' := by
        rw [htR, ← hdr]; exact fun w hv => wordR_any _ w (by unfold maxLen; omega) hv
      by_cases he : (tokR R).err = 0
      · have hM := makes_of hcon he
        obtain ⟨hn1', hn2'⟩ := tok_len R (headD_len hRne) he
        have hG2 := (hG.out).trans (by rw [step_tok hRne hspR hnote he, pre_cons])
        obtain ⟨n, hn⟩ : ∃ n, (tokR R).len = n := ⟨_, rfl⟩
        obtain ⟨kd, hkd⟩ : ∃ kd, (tokR R).kind = kd := ⟨_, rfl⟩
        obtain ⟨vl, hvl⟩ : ∃ vl, (tokR R).val = vl := ⟨_, rfl⟩
        rw [hn, hkd, hvl] at hM hG2
        rw [hn] at hn1' hn2'
        rw [hRdrop] at hG2
        have hRl : R.length = s.size - k := by rw [← hdr]; simp
        obtain ⟨tx, htx⟩ : ∃ tx, (s.extract k s.size).extract 0 n = tx := ⟨_, rfl⟩
        have htsz : tx.size = n := by rw [← htx, ByteArray.size_extract, ext_size]; omega
        have HTX : Hid (tx = ⟨(R.take n).toArray⟩) := by
          show _ = _
          rw [← htx]; apply ByteArray.ext; apply Array.ext'; rw [ext_take, hdr]
        rw [htx] at hM
        have HM := Lib.hid hM
        have HG := Lib.hid hG2
        have hkn : k + n ≤ s.size := by omega
        clear hM hG2 hn hkd hvl htx htR hcon he hsp hl hn1 hn2 hhd hRl hRdrop hdr hRne hspR hnote hG hn2'
        subst htsz
        go_wp2_with fail
        refine (sp_is false _ _ HSP.out).mono ?_
        rintro e w' ⟨rfl, rfl⟩
        go_wp2_with fail
        refine (hp_is false _ _ _ HN1.out).mono ?_
        rintro e w' ⟨rfl, rfl⟩
        go_wp2_with fail
        refine (hp_is false _ _ _ HN2.out).mono ?_
        rintro e w' ⟨rfl, rfl⟩
        go_wp2_with fail
        refine (lt_is true _ _ HL.out).mono ?_
        rintro e w' ⟨rfl, rfl⟩
        go_wp2_with fail
        refine (HM.out _ (hVr.out.alloc _)).mono ?_
        rintro e w2 ⟨rfl, hb2⟩
        have HB2 := Lib.hid hb2
        obtain ⟨hcc, hff⟩ := bcell hb2
        have hz := size_lt hb2
        clear hb2
        go_upto_region 26 with (fail)
        have HH := Lib.hid (W4_heap w2 wr.heap.size kd tx vl _ _ _ _ (new_heap HB2.out))
        have HB3 := Lib.hid (hB.out.trans ((W4_below wr w2 wr.heap.size _ (Nat.le_refl _) kd tx vl (below_trans2 HB2.out)).mono hB.out.size))
        have HO3 := Lib.hid (ownsRow_below hown.out (W4_below wr w2 wr.heap.size _ (Nat.le_refl _) kd tx vl (below_trans2 HB2.out)) (Nat.le_refl _))
        have hz3 : wr.heap.size < (W4 w2 wr.heap.size kd tx vl).heap.size := by simp [W4, World.setCell]; exact hz
        change Code.wp _ _ _ _ (W4 w2 wr.heap.size kd tx vl)
        generalize W4 w2 wr.heap.size kd tx vl = W at *
        clear hcc hff hz HB2 HM
        have hc := fun j => cell_of_row W wr.heap.size j _ _ _ HH.out
        have hf1 : W.frozen? ⟨wr.heap.size, 1, none⟩ = false := by simp [World.frozen?, HH.out]
        have c0 := hc 0
        have c1 := hc 1
        have c2 := hc 2
        have c3 := hc 3
        simp at c0 c1 c2 c3
        clear hc
        go_upto_region 27 with (fail)
        have HH5 := Lib.hid (setCell_heap W wr.heap.size 1 _ _ _ (.int .i64 k) HH.out)
        have HB5 := Lib.hid (HB3.out.setCell (p := ⟨wr.heap.size, 1, none⟩) hB.out.size (.int .i64 k))
        have HO5 := Lib.hid (ownsRow_setCell_other (a := ⟨wr.heap.size, 1, none⟩) HO3.out (own_other hown.out) (.int .i64 k))
        have hz5 : wr.heap.size < (W.setCell ⟨wr.heap.size, 1, none⟩ (.int .i64 k)).heap.size := by simp [World.setCell]; exact hz3
        generalize W.setCell ⟨wr.heap.size, 1, none⟩ (.int .i64 k) = W5 at *
        clear c0 c1 c2 c3 hf1 hz3 HO3 HB3 HH
        have hc := fun j => cell_of_row W5 wr.heap.size j _ _ _ HH5.out
        have c0 := hc 0
        have c1 := hc 1
        have c2 := hc 2
        have c3 := hc 3
        simp at c0 c1 c2 c3
        clear hc
        have c2' := Lib.hid c2
        obtain ⟨i0, hi, hz0, hz1, hz2⟩ := info_parts info49
        have hbase : w.heap.size ≤ W5.heap.size := by have := hB.out.size; omega
        go_wp2_with (at_builtin; go_must (refine wpList_append_own _ rfl (.tmp 76) (.tmp 78) 38 rfl w.heap.size 49 i0 _ 4 40 Tryz.underlying38 hi hz0 hz1 hz2 rfl (by decide) _ acc.length (cellsOf acc) rfl (HO5.out.alloc _) ⟨W5.heap.size, 0, none⟩ 1 1 [.int .i64 kd, .int .i64 k, .string tx, .int .i64 vl] rfl rfl ?_ ?_ ?_ ?_ ?_ ?_))
        · exact cells_new _ _ _ _
        · intro u hu; simp at hu; rcases hu with rfl | rfl | rfl | rfl <;> rfl
        · unfold maxLen; have := hal.out; omega
        · have := hal.out; omega
        · simp; omega
        intro v' w' hown' hgrow hnil
        have g2 := hgrow.cell (a := ⟨wr.heap.size, 2, none⟩) (v := .string tx) (by rw [(below_new _).cell (p := ⟨wr.heap.size, 2, none⟩) hz5]; exact c2'.out) (own_ne hown.out)
        have HBB := Lib.hid ((HB5.out.alloc hbase (.cells #[.int .i64 kd, .int .i64 k, .string tx, .int .i64 vl] 49)).grown hgrow (by simp; omega) (fun q hq => (hown.out.lt q hq).1))
        have HVV := Lib.hid (HV.out.below HBB.out HV.out.size)
        have HW := Lib.hid hown'
        clear hgrow hown' hnil c0 c1 c2 c3 hbase
        go_wp2_with fail
        refine ⟨⟨k + tx.size, acc ++ [⟨kd, k, R.take tx.size, vl⟩], by omega, by go_num, rfl, ?_, ?_, HBB.out, HVV.out, HG⟩, by simp [intOf]; omega⟩
        · show _ ≤ _; have := hal.out; simp; omega
        · show World.ownsRow _ _ _ _ _ _ _
          have e1 := HW.out
          rw [cellsOf_snoc, List.length_append]
          unfold cells4
          rw [← HTX.out]
          exact e1
      · have hbb : tokR R = Tk.bad (tokR R).err := by rw [htR] at he ⊢; exact word_badE _ he
        have hM := makesBad_of hcon hbb
        have hG2 := (hG.out).trans (by rw [step_bad hRne hspR hnote he, pre_bad])
        generalize (tokR R).err = er at *
        have HM := Lib.hid hM
        have HG := Lib.hid hG2
        clear hM hG2 hbb htR hcon hsp hl hn1 hn2 hhd hRdrop hdr hRne hspR hnote hG
        go_wp2_with fail
        refine (sp_is false _ _ HSP.out).mono ?_
        rintro e w' ⟨rfl, rfl⟩
        go_wp2_with fail
        refine (hp_is false _ _ _ HN1.out).mono ?_
        rintro e w' ⟨rfl, rfl⟩
        go_wp2_with fail
        refine (hp_is false _ _ _ HN2.out).mono ?_
        rintro e w' ⟨rfl, rfl⟩
        go_wp2_with fail
        refine (lt_is true _ _ HL.out).mono ?_
        rintro e w' ⟨rfl, rfl⟩
        go_wp2_with fail
        refine (HM.out _ (hVr.out.alloc _)).mono ?_
        rintro e w2 ⟨rfl, hb2⟩
        have HB2 := Lib.hid hb2
        obtain ⟨hcc, hff⟩ := bcell hb2
        have hz := size_lt hb2
        clear hb2
        go_wp2_with fail
        rw [Exit.noGoto_ret]
        go_ret3
        refine ⟨?_, by rw [HG.out]; exact rfl⟩
        exact hB.out.trans ((W4_below wr w2 wr.heap.size _ (Nat.le_refl _) 0 ⟨#[]⟩ 0 (below_trans2 HB2.out)).mono hB.out.size)
      | false =>
      have HL := Lib.hid hl
      cases hdg : isDig ((s.extract k s.size)[0].toNat : Nat) with
      | true =>
      have HD := Lib.hid hdg
      have htR : tokR R = numberR R := by unfold tokR; rw [if_neg (by rw [hhd, hl]; simp), if_pos (by rw [hhd]; exact hdg)]
      have hcon : ∀ w, Vars w → Calls Tryz.prog 26 #[.string (s.extract k s.size)] w fun e w' => e = .returned (tokV (s.extract k s.size) (tokR R)) ∧ Below w.heap.size w w' := by
        rw [htR, ← hdr]; exact fun w hv => numberR_any _ w hsz hp hdg hv
      by_cases he : (tokR R).err = 0
      · have hM := makes_of hcon he
        obtain ⟨hn1', hn2'⟩ := tok_len R (headD_len hRne) he
        have hG2 := (hG.out).trans (by rw [step_tok hRne hspR hnote he, pre_cons])
        obtain ⟨n, hn⟩ : ∃ n, (tokR R).len = n := ⟨_, rfl⟩
        obtain ⟨kd, hkd⟩ : ∃ kd, (tokR R).kind = kd := ⟨_, rfl⟩
        obtain ⟨vl, hvl⟩ : ∃ vl, (tokR R).val = vl := ⟨_, rfl⟩
        rw [hn, hkd, hvl] at hM hG2
        rw [hn] at hn1' hn2'
        rw [hRdrop] at hG2
        have hRl : R.length = s.size - k := by rw [← hdr]; simp
        obtain ⟨tx, htx⟩ : ∃ tx, (s.extract k s.size).extract 0 n = tx := ⟨_, rfl⟩
        have htsz : tx.size = n := by rw [← htx, ByteArray.size_extract, ext_size]; omega
        have HTX : Hid (tx = ⟨(R.take n).toArray⟩) := by
          show _ = _
          rw [← htx]; apply ByteArray.ext; apply Array.ext'; rw [ext_take, hdr]
        rw [htx] at hM
        have HM := Lib.hid hM
        have HG := Lib.hid hG2
        have hkn : k + n ≤ s.size := by omega
        clear hM hG2 hn hkd hvl htx htR hcon he hsp hl hn1 hn2 hhd hRl hRdrop hdr hRne hspR hnote hG hn2' hdg
        subst htsz
        go_wp2_with fail
        refine (sp_is false _ _ HSP.out).mono ?_
        rintro e w' ⟨rfl, rfl⟩
        go_wp2_with fail
        refine (hp_is false _ _ _ HN1.out).mono ?_
        rintro e w' ⟨rfl, rfl⟩
        go_wp2_with fail
        refine (hp_is false _ _ _ HN2.out).mono ?_
        rintro e w' ⟨rfl, rfl⟩
        go_wp2_with fail
        refine (lt_is false _ _ HL.out).mono ?_
        rintro e w' ⟨rfl, rfl⟩
        go_wp2_with fail
        refine (dg_is true _ _ HD.out).mono ?_
        rintro e w' ⟨rfl, rfl⟩
        go_wp2_with fail
        refine (HM.out _ (hVr.out.alloc _)).mono ?_
        rintro e w2 ⟨rfl, hb2⟩
        have HB2 := Lib.hid hb2
        obtain ⟨hcc, hff⟩ := bcell hb2
        have hz := size_lt hb2
        clear hb2
        go_upto_region 26 with (fail)
        have HH := Lib.hid (W4_heap w2 wr.heap.size kd tx vl _ _ _ _ (new_heap HB2.out))
        have HB3 := Lib.hid (hB.out.trans ((W4_below wr w2 wr.heap.size _ (Nat.le_refl _) kd tx vl (below_trans2 HB2.out)).mono hB.out.size))
        have HO3 := Lib.hid (ownsRow_below hown.out (W4_below wr w2 wr.heap.size _ (Nat.le_refl _) kd tx vl (below_trans2 HB2.out)) (Nat.le_refl _))
        have hz3 : wr.heap.size < (W4 w2 wr.heap.size kd tx vl).heap.size := by simp [W4, World.setCell]; exact hz
        change Code.wp _ _ _ _ (W4 w2 wr.heap.size kd tx vl)
        generalize W4 w2 wr.heap.size kd tx vl = W at *
        clear hcc hff hz HB2 HM
        have hc := fun j => cell_of_row W wr.heap.size j _ _ _ HH.out
        have hf1 : W.frozen? ⟨wr.heap.size, 1, none⟩ = false := by simp [World.frozen?, HH.out]
        have c0 := hc 0
        have c1 := hc 1
        have c2 := hc 2
        have c3 := hc 3
        simp at c0 c1 c2 c3
        clear hc
        go_upto_region 27 with (fail)
        have HH5 := Lib.hid (setCell_heap W wr.heap.size 1 _ _ _ (.int .i64 k) HH.out)
        have HB5 := Lib.hid (HB3.out.setCell (p := ⟨wr.heap.size, 1, none⟩) hB.out.size (.int .i64 k))
        have HO5 := Lib.hid (ownsRow_setCell_other (a := ⟨wr.heap.size, 1, none⟩) HO3.out (own_other hown.out) (.int .i64 k))
        have hz5 : wr.heap.size < (W.setCell ⟨wr.heap.size, 1, none⟩ (.int .i64 k)).heap.size := by simp [World.setCell]; exact hz3
        generalize W.setCell ⟨wr.heap.size, 1, none⟩ (.int .i64 k) = W5 at *
        clear c0 c1 c2 c3 hf1 hz3 HO3 HB3 HH
        have hc := fun j => cell_of_row W5 wr.heap.size j _ _ _ HH5.out
        have c0 := hc 0
        have c1 := hc 1
        have c2 := hc 2
        have c3 := hc 3
        simp at c0 c1 c2 c3
        clear hc
        have c2' := Lib.hid c2
        obtain ⟨i0, hi, hz0, hz1, hz2⟩ := info_parts info49
        have hbase : w.heap.size ≤ W5.heap.size := by have := hB.out.size; omega
        go_wp2_with (at_builtin; go_must (refine wpList_append_own _ rfl (.tmp 76) (.tmp 78) 38 rfl w.heap.size 49 i0 _ 4 40 Tryz.underlying38 hi hz0 hz1 hz2 rfl (by decide) _ acc.length (cellsOf acc) rfl (HO5.out.alloc _) ⟨W5.heap.size, 0, none⟩ 1 1 [.int .i64 kd, .int .i64 k, .string tx, .int .i64 vl] rfl rfl ?_ ?_ ?_ ?_ ?_ ?_))
        · exact cells_new _ _ _ _
        · intro u hu; simp at hu; rcases hu with rfl | rfl | rfl | rfl <;> rfl
        · unfold maxLen; have := hal.out; omega
        · have := hal.out; omega
        · simp; omega
        intro v' w' hown' hgrow hnil
        have g2 := hgrow.cell (a := ⟨wr.heap.size, 2, none⟩) (v := .string tx) (by rw [(below_new _).cell (p := ⟨wr.heap.size, 2, none⟩) hz5]; exact c2'.out) (own_ne hown.out)
        have HBB := Lib.hid ((HB5.out.alloc hbase (.cells #[.int .i64 kd, .int .i64 k, .string tx, .int .i64 vl] 49)).grown hgrow (by simp; omega) (fun q hq => (hown.out.lt q hq).1))
        have HVV := Lib.hid (HV.out.below HBB.out HV.out.size)
        have HW := Lib.hid hown'
        clear hgrow hown' hnil c0 c1 c2 c3 hbase
        go_wp2_with fail
        refine ⟨⟨k + tx.size, acc ++ [⟨kd, k, R.take tx.size, vl⟩], by omega, by go_num, rfl, ?_, ?_, HBB.out, HVV.out, HG⟩, by simp [intOf]; omega⟩
        · show _ ≤ _; have := hal.out; simp; omega
        · show World.ownsRow _ _ _ _ _ _ _
          have e1 := HW.out
          rw [cellsOf_snoc, List.length_append]
          unfold cells4
          rw [← HTX.out]
          exact e1
      · have hbb : tokR R = Tk.bad (tokR R).err := by rw [htR] at he ⊢; exact num_badE _ he
        have hM := makesBad_of hcon hbb
        have hG2 := (hG.out).trans (by rw [step_bad hRne hspR hnote he, pre_bad])
        generalize (tokR R).err = er at *
        have HM := Lib.hid hM
        have HG := Lib.hid hG2
        clear hM hG2 hbb htR hcon hsp hl hn1 hn2 hhd hRdrop hdr hRne hspR hnote hG hdg
        go_wp2_with fail
        refine (sp_is false _ _ HSP.out).mono ?_
        rintro e w' ⟨rfl, rfl⟩
        go_wp2_with fail
        refine (hp_is false _ _ _ HN1.out).mono ?_
        rintro e w' ⟨rfl, rfl⟩
        go_wp2_with fail
        refine (hp_is false _ _ _ HN2.out).mono ?_
        rintro e w' ⟨rfl, rfl⟩
        go_wp2_with fail
        refine (lt_is false _ _ HL.out).mono ?_
        rintro e w' ⟨rfl, rfl⟩
        go_wp2_with fail
        refine (dg_is true _ _ HD.out).mono ?_
        rintro e w' ⟨rfl, rfl⟩
        go_wp2_with fail
        refine (HM.out _ (hVr.out.alloc _)).mono ?_
        rintro e w2 ⟨rfl, hb2⟩
        have HB2 := Lib.hid hb2
        obtain ⟨hcc, hff⟩ := bcell hb2
        have hz := size_lt hb2
        clear hb2
        go_wp2_with fail
        rw [Exit.noGoto_ret]
        go_ret3
        refine ⟨?_, by rw [HG.out]; exact rfl⟩
        exact hB.out.trans ((W4_below wr w2 wr.heap.size _ (Nat.le_refl _) 0 ⟨#[]⟩ 0 (below_trans2 HB2.out)).mono hB.out.size)
      | false =>
      have HD := Lib.hid hdg
      cases h39 : (((s.extract k s.size)[0].toNat : Nat) : Int) == 39 with
      | true =>
      have htR : tokR R = charR R := by unfold tokR; rw [if_neg (by rw [hhd, hl]; simp), if_neg (by rw [hhd, hdg]; simp), if_pos (by rw [hhd]; exact eq_of_beq h39)]
      have hcon : ∀ w, Vars w → Calls Tryz.prog 27 #[.string (s.extract k s.size)] w fun e w' => e = .returned (tokV (s.extract k s.size) (tokR R)) ∧ Below w.heap.size w w' := by
        rw [htR, ← hdr]; exact fun w hv => charR_any _ w (by unfold maxLen; omega)
      by_cases he : (tokR R).err = 0
      · have hM := makes_of hcon he
        obtain ⟨hn1', hn2'⟩ := tok_len R (headD_len hRne) he
        have hG2 := (hG.out).trans (by rw [step_tok hRne hspR hnote he, pre_cons])
        obtain ⟨n, hn⟩ : ∃ n, (tokR R).len = n := ⟨_, rfl⟩
        obtain ⟨kd, hkd⟩ : ∃ kd, (tokR R).kind = kd := ⟨_, rfl⟩
        obtain ⟨vl, hvl⟩ : ∃ vl, (tokR R).val = vl := ⟨_, rfl⟩
        rw [hn, hkd, hvl] at hM hG2
        rw [hn] at hn1' hn2'
        rw [hRdrop] at hG2
        have hRl : R.length = s.size - k := by rw [← hdr]; simp
        obtain ⟨tx, htx⟩ : ∃ tx, (s.extract k s.size).extract 0 n = tx := ⟨_, rfl⟩
        have htsz : tx.size = n := by rw [← htx, ByteArray.size_extract, ext_size]; omega
        have HTX : Hid (tx = ⟨(R.take n).toArray⟩) := by
          show _ = _
          rw [← htx]; apply ByteArray.ext; apply Array.ext'; rw [ext_take, hdr]
        rw [htx] at hM
        have HM := Lib.hid hM
        have HG := Lib.hid hG2
        have hkn : k + n ≤ s.size := by omega
        clear hM hG2 hn hkd hvl htx htR hcon he hsp hl hn1 hn2 hhd hRl hRdrop hdr hRne hspR hnote hG hn2' hdg
        subst htsz
        go_wp2_with fail
        refine (sp_is false _ _ HSP.out).mono ?_
        rintro e w' ⟨rfl, rfl⟩
        go_wp2_with fail
        refine (hp_is false _ _ _ HN1.out).mono ?_
        rintro e w' ⟨rfl, rfl⟩
        go_wp2_with fail
        refine (hp_is false _ _ _ HN2.out).mono ?_
        rintro e w' ⟨rfl, rfl⟩
        go_wp2_with fail
        refine (lt_is false _ _ HL.out).mono ?_
        rintro e w' ⟨rfl, rfl⟩
        go_wp2_with fail
        refine (dg_is false _ _ HD.out).mono ?_
        rintro e w' ⟨rfl, rfl⟩
        go_wp2_with fail
        refine (HM.out _ (hVr.out.alloc _)).mono ?_
        rintro e w2 ⟨rfl, hb2⟩
        have HB2 := Lib.hid hb2
        obtain ⟨hcc, hff⟩ := bcell hb2
        have hz := size_lt hb2
        clear hb2
        go_upto_region 26 with (fail)
        have HH := Lib.hid (W4_heap w2 wr.heap.size kd tx vl _ _ _ _ (new_heap HB2.out))
        have HB3 := Lib.hid (hB.out.trans ((W4_below wr w2 wr.heap.size _ (Nat.le_refl _) kd tx vl (below_trans2 HB2.out)).mono hB.out.size))
        have HO3 := Lib.hid (ownsRow_below hown.out (W4_below wr w2 wr.heap.size _ (Nat.le_refl _) kd tx vl (below_trans2 HB2.out)) (Nat.le_refl _))
        have hz3 : wr.heap.size < (W4 w2 wr.heap.size kd tx vl).heap.size := by simp [W4, World.setCell]; exact hz
        change Code.wp _ _ _ _ (W4 w2 wr.heap.size kd tx vl)
        generalize W4 w2 wr.heap.size kd tx vl = W at *
        clear hcc hff hz HB2 HM
        have hc := fun j => cell_of_row W wr.heap.size j _ _ _ HH.out
        have hf1 : W.frozen? ⟨wr.heap.size, 1, none⟩ = false := by simp [World.frozen?, HH.out]
        have c0 := hc 0
        have c1 := hc 1
        have c2 := hc 2
        have c3 := hc 3
        simp at c0 c1 c2 c3
        clear hc
        go_upto_region 27 with (fail)
        have HH5 := Lib.hid (setCell_heap W wr.heap.size 1 _ _ _ (.int .i64 k) HH.out)
        have HB5 := Lib.hid (HB3.out.setCell (p := ⟨wr.heap.size, 1, none⟩) hB.out.size (.int .i64 k))
        have HO5 := Lib.hid (ownsRow_setCell_other (a := ⟨wr.heap.size, 1, none⟩) HO3.out (own_other hown.out) (.int .i64 k))
        have hz5 : wr.heap.size < (W.setCell ⟨wr.heap.size, 1, none⟩ (.int .i64 k)).heap.size := by simp [World.setCell]; exact hz3
        generalize W.setCell ⟨wr.heap.size, 1, none⟩ (.int .i64 k) = W5 at *
        clear c0 c1 c2 c3 hf1 hz3 HO3 HB3 HH
        have hc := fun j => cell_of_row W5 wr.heap.size j _ _ _ HH5.out
        have c0 := hc 0
        have c1 := hc 1
        have c2 := hc 2
        have c3 := hc 3
        simp at c0 c1 c2 c3
        clear hc
        have c2' := Lib.hid c2
        obtain ⟨i0, hi, hz0, hz1, hz2⟩ := info_parts info49
        have hbase : w.heap.size ≤ W5.heap.size := by have := hB.out.size; omega
        go_wp2_with (at_builtin; go_must (refine wpList_append_own _ rfl (.tmp 76) (.tmp 78) 38 rfl w.heap.size 49 i0 _ 4 40 Tryz.underlying38 hi hz0 hz1 hz2 rfl (by decide) _ acc.length (cellsOf acc) rfl (HO5.out.alloc _) ⟨W5.heap.size, 0, none⟩ 1 1 [.int .i64 kd, .int .i64 k, .string tx, .int .i64 vl] rfl rfl ?_ ?_ ?_ ?_ ?_ ?_))
        · exact cells_new _ _ _ _
        · intro u hu; simp at hu; rcases hu with rfl | rfl | rfl | rfl <;> rfl
        · unfold maxLen; have := hal.out; omega
        · have := hal.out; omega
        · simp; omega
        intro v' w' hown' hgrow hnil
        have g2 := hgrow.cell (a := ⟨wr.heap.size, 2, none⟩) (v := .string tx) (by rw [(below_new _).cell (p := ⟨wr.heap.size, 2, none⟩) hz5]; exact c2'.out) (own_ne hown.out)
        have HBB := Lib.hid ((HB5.out.alloc hbase (.cells #[.int .i64 kd, .int .i64 k, .string tx, .int .i64 vl] 49)).grown hgrow (by simp; omega) (fun q hq => (hown.out.lt q hq).1))
        have HVV := Lib.hid (HV.out.below HBB.out HV.out.size)
        have HW := Lib.hid hown'
        clear hgrow hown' hnil c0 c1 c2 c3 hbase
        go_wp2_with fail
        refine ⟨⟨k + tx.size, acc ++ [⟨kd, k, R.take tx.size, vl⟩], by omega, by go_num, rfl, ?_, ?_, HBB.out, HVV.out, HG⟩, by simp [intOf]; omega⟩
        · show _ ≤ _; have := hal.out; simp; omega
        · show World.ownsRow _ _ _ _ _ _ _
          have e1 := HW.out
          rw [cellsOf_snoc, List.length_append]
          unfold cells4
          rw [← HTX.out]
          exact e1
      · have hbb : tokR R = Tk.bad (tokR R).err := by rw [htR] at he ⊢; exact char_badE _ he
        have hM := makesBad_of hcon hbb
        have hG2 := (hG.out).trans (by rw [step_bad hRne hspR hnote he, pre_bad])
        generalize (tokR R).err = er at *
        have HM := Lib.hid hM
        have HG := Lib.hid hG2
        clear hM hG2 hbb htR hcon hsp hl hn1 hn2 hhd hRdrop hdr hRne hspR hnote hG hdg
        go_wp2_with fail
        refine (sp_is false _ _ HSP.out).mono ?_
        rintro e w' ⟨rfl, rfl⟩
        go_wp2_with fail
        refine (hp_is false _ _ _ HN1.out).mono ?_
        rintro e w' ⟨rfl, rfl⟩
        go_wp2_with fail
        refine (hp_is false _ _ _ HN2.out).mono ?_
        rintro e w' ⟨rfl, rfl⟩
        go_wp2_with fail
        refine (lt_is false _ _ HL.out).mono ?_
        rintro e w' ⟨rfl, rfl⟩
        go_wp2_with fail
        refine (dg_is false _ _ HD.out).mono ?_
        rintro e w' ⟨rfl, rfl⟩
        go_wp2_with fail
        refine (HM.out _ (hVr.out.alloc _)).mono ?_
        rintro e w2 ⟨rfl, hb2⟩
        have HB2 := Lib.hid hb2
        obtain ⟨hcc, hff⟩ := bcell hb2
        have hz := size_lt hb2
        clear hb2
        go_wp2_with fail
        rw [Exit.noGoto_ret]
        go_ret3
        refine ⟨?_, by rw [HG.out]; exact rfl⟩
        exact hB.out.trans ((W4_below wr w2 wr.heap.size _ (Nat.le_refl _) 0 ⟨#[]⟩ 0 (below_trans2 HB2.out)).mono hB.out.size)
      | false =>
      have htR : tokR R = signR R := by unfold tokR; rw [if_neg (by rw [hhd, hl]; simp), if_neg (by rw [hhd, hdg]; simp), if_neg (by rw [hhd]; intro e; rw [e] at h39; simp at h39)]
      have hcon : ∀ w, Vars w → Calls Tryz.prog 28 #[.string (s.extract k s.size)] w fun e w' => e = .returned (tokV (s.extract k s.size) (tokR R)) ∧ Below w.heap.size w w' := by
        rw [htR, ← hdr]; exact fun w hv => signR_any _ w hv
      by_cases he : (tokR R).err = 0
      · have hM := makes_of hcon he
        obtain ⟨hn1', hn2'⟩ := tok_len R (headD_len hRne) he
        have hG2 := (hG.out).trans (by rw [step_tok hRne hspR hnote he, pre_cons])
        obtain ⟨n, hn⟩ : ∃ n, (tokR R).len = n := ⟨_, rfl⟩
        obtain ⟨kd, hkd⟩ : ∃ kd, (tokR R).kind = kd := ⟨_, rfl⟩
        obtain ⟨vl, hvl⟩ : ∃ vl, (tokR R).val = vl := ⟨_, rfl⟩
        rw [hn, hkd, hvl] at hM hG2
        rw [hn] at hn1' hn2'
        rw [hRdrop] at hG2
        have hRl : R.length = s.size - k := by rw [← hdr]; simp
        obtain ⟨tx, htx⟩ : ∃ tx, (s.extract k s.size).extract 0 n = tx := ⟨_, rfl⟩
        have htsz : tx.size = n := by rw [← htx, ByteArray.size_extract, ext_size]; omega
        have HTX : Hid (tx = ⟨(R.take n).toArray⟩) := by
          show _ = _
          rw [← htx]; apply ByteArray.ext; apply Array.ext'; rw [ext_take, hdr]
        rw [htx] at hM
        have HM := Lib.hid hM
        have HG := Lib.hid hG2
        have hkn : k + n ≤ s.size := by omega
        clear hM hG2 hn hkd hvl htx htR hcon he hsp hl hn1 hn2 hhd hRl hRdrop hdr hRne hspR hnote hG hn2' hdg
        subst htsz
        go_wp2_with fail
        refine (sp_is false _ _ HSP.out).mono ?_
        rintro e w' ⟨rfl, rfl⟩
        go_wp2_with fail
        refine (hp_is false _ _ _ HN1.out).mono ?_
        rintro e w' ⟨rfl, rfl⟩
        go_wp2_with fail
        refine (hp_is false _ _ _ HN2.out).mono ?_
        rintro e w' ⟨rfl, rfl⟩
        go_wp2_with fail
        refine (lt_is false _ _ HL.out).mono ?_
        rintro e w' ⟨rfl, rfl⟩
        go_wp2_with fail
        refine (dg_is false _ _ HD.out).mono ?_
        rintro e w' ⟨rfl, rfl⟩
        go_wp2_with fail
        refine (HM.out _ (hVr.out.alloc _)).mono ?_
        rintro e w2 ⟨rfl, hb2⟩
        have HB2 := Lib.hid hb2
        obtain ⟨hcc, hff⟩ := bcell hb2
        have hz := size_lt hb2
        clear hb2
        go_upto_region 26 with (fail)
        have HH := Lib.hid (W4_heap w2 wr.heap.size kd tx vl _ _ _ _ (new_heap HB2.out))
        have HB3 := Lib.hid (hB.out.trans ((W4_below wr w2 wr.heap.size _ (Nat.le_refl _) kd tx vl (below_trans2 HB2.out)).mono hB.out.size))
        have HO3 := Lib.hid (ownsRow_below hown.out (W4_below wr w2 wr.heap.size _ (Nat.le_refl _) kd tx vl (below_trans2 HB2.out)) (Nat.le_refl _))
        have hz3 : wr.heap.size < (W4 w2 wr.heap.size kd tx vl).heap.size := by simp [W4, World.setCell]; exact hz
        change Code.wp _ _ _ _ (W4 w2 wr.heap.size kd tx vl)
        generalize W4 w2 wr.heap.size kd tx vl = W at *
        clear hcc hff hz HB2 HM
        have hc := fun j => cell_of_row W wr.heap.size j _ _ _ HH.out
        have hf1 : W.frozen? ⟨wr.heap.size, 1, none⟩ = false := by simp [World.frozen?, HH.out]
        have c0 := hc 0
        have c1 := hc 1
        have c2 := hc 2
        have c3 := hc 3
        simp at c0 c1 c2 c3
        clear hc
        go_upto_region 27 with (fail)
        have HH5 := Lib.hid (setCell_heap W wr.heap.size 1 _ _ _ (.int .i64 k) HH.out)
        have HB5 := Lib.hid (HB3.out.setCell (p := ⟨wr.heap.size, 1, none⟩) hB.out.size (.int .i64 k))
        have HO5 := Lib.hid (ownsRow_setCell_other (a := ⟨wr.heap.size, 1, none⟩) HO3.out (own_other hown.out) (.int .i64 k))
        have hz5 : wr.heap.size < (W.setCell ⟨wr.heap.size, 1, none⟩ (.int .i64 k)).heap.size := by simp [World.setCell]; exact hz3
        generalize W.setCell ⟨wr.heap.size, 1, none⟩ (.int .i64 k) = W5 at *
        clear c0 c1 c2 c3 hf1 hz3 HO3 HB3 HH
        have hc := fun j => cell_of_row W5 wr.heap.size j _ _ _ HH5.out
        have c0 := hc 0
        have c1 := hc 1
        have c2 := hc 2
        have c3 := hc 3
        simp at c0 c1 c2 c3
        clear hc
        have c2' := Lib.hid c2
        obtain ⟨i0, hi, hz0, hz1, hz2⟩ := info_parts info49
        have hbase : w.heap.size ≤ W5.heap.size := by have := hB.out.size; omega
        go_wp2_with (at_builtin; go_must (refine wpList_append_own _ rfl (.tmp 76) (.tmp 78) 38 rfl w.heap.size 49 i0 _ 4 40 Tryz.underlying38 hi hz0 hz1 hz2 rfl (by decide) _ acc.length (cellsOf acc) rfl (HO5.out.alloc _) ⟨W5.heap.size, 0, none⟩ 1 1 [.int .i64 kd, .int .i64 k, .string tx, .int .i64 vl] rfl rfl ?_ ?_ ?_ ?_ ?_ ?_))
        · exact cells_new _ _ _ _
        · intro u hu; simp at hu; rcases hu with rfl | rfl | rfl | rfl <;> rfl
        · unfold maxLen; have := hal.out; omega
        · have := hal.out; omega
        · simp; omega
        intro v' w' hown' hgrow hnil
        have g2 := hgrow.cell (a := ⟨wr.heap.size, 2, none⟩) (v := .string tx) (by rw [(below_new _).cell (p := ⟨wr.heap.size, 2, none⟩) hz5]; exact c2'.out) (own_ne hown.out)
        have HBB := Lib.hid ((HB5.out.alloc hbase (.cells #[.int .i64 kd, .int .i64 k, .string tx, .int .i64 vl] 49)).grown hgrow (by simp; omega) (fun q hq => (hown.out.lt q hq).1))
        have HVV := Lib.hid (HV.out.below HBB.out HV.out.size)
        have HW := Lib.hid hown'
        clear hgrow hown' hnil c0 c1 c2 c3 hbase
        go_wp2_with fail
        refine ⟨⟨k + tx.size, acc ++ [⟨kd, k, R.take tx.size, vl⟩], by omega, by go_num, rfl, ?_, ?_, HBB.out, HVV.out, HG⟩, by simp [intOf]; omega⟩
        · show _ ≤ _; have := hal.out; simp; omega
        · show World.ownsRow _ _ _ _ _ _ _
          have e1 := HW.out
          rw [cellsOf_snoc, List.length_append]
          unfold cells4
          rw [← HTX.out]
          exact e1
      · have hbb : tokR R = Tk.bad (tokR R).err := by rw [htR] at he ⊢; exact sign_badE _ he
        have hM := makesBad_of hcon hbb
        have hG2 := (hG.out).trans (by rw [step_bad hRne hspR hnote he, pre_bad])
        generalize (tokR R).err = er at *
        have HM := Lib.hid hM
        have HG := Lib.hid hG2
        clear hM hG2 hbb htR hcon hsp hl hn1 hn2 hhd hRdrop hdr hRne hspR hnote hG hdg
        go_wp2_with fail
        refine (sp_is false _ _ HSP.out).mono ?_
        rintro e w' ⟨rfl, rfl⟩
        go_wp2_with fail
        refine (hp_is false _ _ _ HN1.out).mono ?_
        rintro e w' ⟨rfl, rfl⟩
        go_wp2_with fail
        refine (hp_is false _ _ _ HN2.out).mono ?_
        rintro e w' ⟨rfl, rfl⟩
        go_wp2_with fail
        refine (lt_is false _ _ HL.out).mono ?_
        rintro e w' ⟨rfl, rfl⟩
        go_wp2_with fail
        refine (dg_is false _ _ HD.out).mono ?_
        rintro e w' ⟨rfl, rfl⟩
        go_wp2_with fail
        refine (HM.out _ (hVr.out.alloc _)).mono ?_
        rintro e w2 ⟨rfl, hb2⟩
        have HB2 := Lib.hid hb2
        obtain ⟨hcc, hff⟩ := bcell hb2
        have hz := size_lt hb2
        clear hb2
        go_wp2_with fail
        rw [Exit.noGoto_ret]
        go_ret3
        refine ⟨?_, by rw [HG.out]; exact rfl⟩
        exact hB.out.trans ((W4_below wr w2 wr.heap.size _ (Nat.le_refl _) 0 ⟨#[]⟩ 0 (below_trans2 HB2.out)).mono hB.out.size)
    · go_wp2_with fail
      rw [Exit.noGoto_ret]
      go_ret3
      have hkk : s.data.toList.drop k = [] := by apply List.drop_eq_nil_of_le; simp; omega
      refine ⟨hB.out, ?_⟩
      have e := hG.out
      rw [hkk, lexG_nil] at e
      rw [e]
      exact ⟨_, rfl, by simpa using hown.out⟩
end Go.Proofs.YtkbplcfehllbjaaGreatDoor
