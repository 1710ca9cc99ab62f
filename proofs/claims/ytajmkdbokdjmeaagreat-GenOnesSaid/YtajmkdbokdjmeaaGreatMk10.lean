/- Merged: O1, O2, O3, O4. -/
import Derived.Test.YtajmkdbokdjmeaaGreatMk9
import Derived.WalkKit
import Derived.Maps.AppendAt
import Derived.Lib.Strings
/- An evaluator of calls whose arguments are known: trees; values; how values read. Kit only. -/
namespace Go.Proofs.YtajmkdbokdjmeaaGreat
open Go.RowKit
/-- A tree of places 0, 1, .. -/
inductive Tr (α : Type) where
  | e
  | n (l : Tr α) (v : Option α) (r : Tr α)
noncomputable def Tr.get {α : Type} (t : Tr α) : Nat → Option α :=
  Tr.rec (motive := fun _ => Nat → Option α) (fun _ => none)
    (fun _ v _ gl gr k => Nat.rec (motive := fun _ => Option α) v (fun m _ => cond (Nat.beq (Nat.mod m 2) 0) (gl (Nat.div m 2)) (gr (Nat.div m 2))) k) t
noncomputable def Tr.path {α : Type} (f : Nat) : Nat → α → Tr α :=
  Nat.rec (motive := fun _ => Nat → α → Tr α) (fun _ _ => .e)
    (fun _ ih k v => Nat.rec (motive := fun _ => Tr α) (.n .e (some v) .e)
      (fun m _ => cond (Nat.beq (Nat.mod m 2) 0) (.n (ih (Nat.div m 2) v) none .e) (.n .e none (ih (Nat.div m 2) v))) k) f
noncomputable def Tr.set {α : Type} (t : Tr α) : Nat → α → Tr α :=
  Tr.rec (motive := fun _ => Nat → α → Tr α) (fun k v => Tr.path 40 k v)
    (fun l ov r sl sr k v => Nat.rec (motive := fun _ => Tr α) (.n l (some v) r)
      (fun m _ => cond (Nat.beq (Nat.mod m 2) 0) (.n (sl (Nat.div m 2) v) ov r) (.n l ov (sr (Nat.div m 2) v))) k) t
section
variable {α : Type}
theorem Tr.get_e (k : Nat) : (Tr.e : Tr α).get k = none := rfl
theorem Tr.get_zero (l r : Tr α) (v : Option α) : (Tr.n l v r).get 0 = v := rfl
theorem Tr.get_succ (l r : Tr α) (v : Option α) (m : Nat) : (Tr.n l v r).get (m + 1) = cond (Nat.beq (Nat.mod m 2) 0) (l.get (Nat.div m 2)) (r.get (Nat.div m 2)) := rfl
theorem Tr.set_e (k : Nat) (v : α) : (Tr.e : Tr α).set k v = Tr.path 40 k v := rfl
theorem Tr.path_zero (k : Nat) (v : α) : Tr.path 0 k v = .e := rfl
theorem Tr.path_here (f : Nat) (v : α) : Tr.path (f + 1) 0 v = .n .e (some v) .e := rfl
theorem Tr.path_succ (f m : Nat) (v : α) : Tr.path (f + 1) (m + 1) v = cond (Nat.beq (Nat.mod m 2) 0) (.n (Tr.path f (Nat.div m 2) v) none .e) (.n .e none (Tr.path f (Nat.div m 2) v)) := rfl
theorem Tr.set_zero (l r : Tr α) (o : Option α) (v : α) : (Tr.n l o r).set 0 v = .n l (some v) r := rfl
theorem Tr.set_succ (l r : Tr α) (o : Option α) (m : Nat) (v : α) : (Tr.n l o r).set (m + 1) v = cond (Nat.beq (Nat.mod m 2) 0) (.n (l.set (Nat.div m 2) v) o r) (.n l o (r.set (Nat.div m 2) v)) := rfl
theorem half_inj {j k : Nat} (h1 : j % 2 = k % 2) (h2 : j / 2 = k / 2) : j = k := by omega
theorem Tr.get_path : ∀ (f k : Nat) (v : α) (j : Nat) (x : α), (Tr.path f k v).get j = some x → j = k ∧ x = v
  | 0, k, v, j, x, h => by rw [Tr.path_zero, Tr.get_e] at h; cases h
  | f + 1, 0, v, j, x, h => by
    rw [Tr.path_here] at h
    cases j with
    | zero => rw [Tr.get_zero] at h; exact ⟨rfl, (Option.some.inj h).symm⟩
    | succ j => rw [Tr.get_succ] at h; cases hb : Nat.beq (Nat.mod j 2) 0 <;> rw [hb] at h <;> cases h
  | f + 1, k + 1, v, j, x, h => by
    rw [Tr.path_succ] at h
    cases hk : Nat.beq (Nat.mod k 2) 0 <;> rw [hk] at h <;> simp only [cond_true, cond_false] at h
    · have hk' : k % 2 ≠ 0 := fun e => by rw [show Nat.mod k 2 = 0 from e] at hk; cases hk
      cases j with
      | zero => rw [Tr.get_zero] at h; cases h
      | succ j =>
        rw [Tr.get_succ] at h
        cases hj : Nat.beq (Nat.mod j 2) 0 <;> rw [hj] at h <;> simp only [cond_true, cond_false] at h
        · have hj' : j % 2 ≠ 0 := fun e => by rw [show Nat.mod j 2 = 0 from e] at hj; cases hj
          obtain ⟨h1, h2⟩ := Tr.get_path f _ v _ x h
          exact ⟨by have := half_inj (j := j) (k := k) (by omega) h1; omega, h2⟩
        · rw [Tr.get_e] at h; cases h
    · have hk' : k % 2 = 0 := Nat.eq_of_beq_eq_true hk
      cases j with
      | zero => rw [Tr.get_zero] at h; cases h
      | succ j =>
        rw [Tr.get_succ] at h
        cases hj : Nat.beq (Nat.mod j 2) 0 <;> rw [hj] at h <;> simp only [cond_true, cond_false] at h
        · rw [Tr.get_e] at h; cases h
        · have hj' : j % 2 = 0 := Nat.eq_of_beq_eq_true hj
          obtain ⟨h1, h2⟩ := Tr.get_path f _ v _ x h
          exact ⟨by have := half_inj (j := j) (k := k) (by omega) h1; omega, h2⟩
/-- What stands in a tree behind a store. -/
theorem Tr.get_set (t : Tr α) : ∀ (k : Nat) (v : α) (j : Nat) (x : α), (t.set k v).get j = some x → (j = k ∧ x = v) ∨ (j ≠ k ∧ t.get j = some x) := by
  induction t with
  | e =>
    intro k v j x h
    rw [Tr.set_e] at h
    exact .inl (Tr.get_path _ _ _ _ _ h)
  | n l o r ihl ihr =>
    intro k v j x h
    cases k with
    | zero =>
      rw [Tr.set_zero] at h
      cases j with
      | zero => rw [Tr.get_zero] at h; exact .inl ⟨rfl, (Option.some.inj h).symm⟩
      | succ j => exact .inr ⟨by omega, h⟩
    | succ k =>
      rw [Tr.set_succ] at h
      cases hk : Nat.beq (Nat.mod k 2) 0 <;> rw [hk] at h <;> simp only [cond_true, cond_false] at h
      · have hk' : k % 2 ≠ 0 := fun e => by rw [show Nat.mod k 2 = 0 from e] at hk; cases hk
        cases j with
        | zero => exact .inr ⟨by omega, h⟩
        | succ j =>
          rw [Tr.get_succ] at h ⊢
          cases hj : Nat.beq (Nat.mod j 2) 0 <;> rw [hj] at h <;> simp only [cond_true, cond_false] at h ⊢
          · have hj' : j % 2 ≠ 0 := fun e => by rw [show Nat.mod j 2 = 0 from e] at hj; cases hj
            rcases ihr _ _ _ _ h with ⟨h1, h2⟩ | ⟨h1, h2⟩
            · exact .inl ⟨by have := half_inj (j := j) (k := k) (by omega) h1; omega, h2⟩
            · exact .inr ⟨fun e => h1 (by rw [show j = k by omega]), h2⟩
          · have hj' : j % 2 = 0 := Nat.eq_of_beq_eq_true hj
            exact .inr ⟨fun e => hk' (by rw [← hj']; congr 1; omega), h⟩
      · have hk' : k % 2 = 0 := Nat.eq_of_beq_eq_true hk
        cases j with
        | zero => exact .inr ⟨by omega, h⟩
        | succ j =>
          rw [Tr.get_succ] at h ⊢
          cases hj : Nat.beq (Nat.mod j 2) 0 <;> rw [hj] at h <;> simp only [cond_true, cond_false] at h ⊢
          · have hj' : j % 2 ≠ 0 := fun e => by rw [show Nat.mod j 2 = 0 from e] at hj; cases hj
            exact .inr ⟨fun e => hj' (by rw [← hk']; congr 1; omega), h⟩
          · have hj' : j % 2 = 0 := Nat.eq_of_beq_eq_true hj
            rcases ihl _ _ _ _ h with ⟨h1, h2⟩ | ⟨h1, h2⟩
            · exact .inl ⟨by have := half_inj (j := j) (k := k) (by omega) h1; omega, h2⟩
            · exact .inr ⟨fun e => h1 (by rw [show j = k by omega]), h2⟩

theorem Tr.get_set_ne (t : Tr α) : ∀ (k : Nat) (v : α) (j : Nat), j ≠ k → (t.set k v).get j = t.get j := by
  induction t with
  | e =>
    intro k v j h
    rw [Tr.set_e, Tr.get_e]
    cases hq : (Tr.path 40 k v).get j with
    | none => rfl
    | some x => exact absurd (Tr.get_path _ _ _ _ _ hq).1 h
  | n l o r ihl ihr =>
    intro k v j h
    cases k with
    | zero =>
      cases j with
      | zero => exact absurd rfl h
      | succ j => rfl
    | succ k =>
      rw [Tr.set_succ]
      cases hk : Nat.beq (Nat.mod k 2) 0 <;> simp only [cond_true, cond_false]
      · have hk' : k % 2 ≠ 0 := fun e => by rw [show Nat.mod k 2 = 0 from e] at hk; cases hk
        cases j with
        | zero => rfl
        | succ j =>
          rw [Tr.get_succ, Tr.get_succ]
          cases hj : Nat.beq (Nat.mod j 2) 0 <;> simp only [cond_true, cond_false]
          have hj' : j % 2 ≠ 0 := fun e => by rw [show Nat.mod j 2 = 0 from e] at hj; cases hj
          exact ihr _ _ _ (fun e => h (by have := half_inj (j := j) (k := k) (by omega) e; omega))
      · have hk' : k % 2 = 0 := Nat.eq_of_beq_eq_true hk
        cases j with
        | zero => rfl
        | succ j =>
          rw [Tr.get_succ, Tr.get_succ]
          cases hj : Nat.beq (Nat.mod j 2) 0 <;> simp only [cond_true, cond_false]
          have hj' : j % 2 = 0 := Nat.eq_of_beq_eq_true hj
          exact ihl _ _ _ (fun e => h (by have := half_inj (j := j) (k := k) (by omega) e; omega))
theorem Tr.get_set_self (t : Tr α) (k : Nat) (v x : α) (h : (t.set k v).get k = some x) : x = v := by
  rcases t.get_set k v k x h with h | h
  · exact h.2
  · exact absurd rfl h.1
end
/-- A slice's capacity: known, or so much less than its row's. -/
inductive Cap where
  | known (c : Nat)
  | own (m : Nat)
def Cap.under : Cap → Nat → Nat
  | .known c, _ => c
  | .own m, k => k - m
/-- Values, blocks by numbers of the evaluator's own. -/
inductive AV where
  | int (k : IntKind) (n : Int)
  | bool (b : Bool)
  | str (s : List UInt8)
  | nilp
  | ptr (b o : Nat)
  | nils
  | slice (b o n : Nat) (c : Cap)
  | func (f : Nat) (l : List AV)
  | nilf
  | niliface
  | iface (t : Nat) (v : AV)
  | agg (l : List AV)
  | tup (l : List AV)
  | map (b : Nat)
  | nilmap
  | bound (f : Nat) (fs l : List AV)
/-- Which block stands for a number, and its row's capacity. -/
abbrev Env := Nat → Option (Nat × Nat)
mutual
def Rep (ρ : Env) : AV → Value → Prop
  | .int k n, V => V = .int k n
  | .bool b, V => V = .bool b
  | .str s, V => V = .string ⟨s.toArray⟩
  | .nilp, V => V = .pointer none
  | .ptr b o, V => ∃ g k, ρ b = some (g, k) ∧ V = .pointer (some ⟨g, o, none⟩)
  | .nils, V => V = .slice none 0 0
  | .slice b o n c, V => ∃ g k, ρ b = some (g, k) ∧ V = .slice (some ⟨g, o, none⟩) n (c.under k) ∧ n ≤ c.under k
  | .func f l, V => ∃ L, RepL ρ l L ∧ V = .func (.func f) #[] L.toArray
  | .nilf, V => V = .nilFunc
  | .niliface, V => V = .nilIface
  | .iface t v, V => ∃ U, Rep ρ v U ∧ V = .iface t U
  | .agg l, V => ∃ L, RepL ρ l L ∧ V = .agg L.toArray
  | .tup l, V => ∃ L, RepL ρ l L ∧ V = .tuple L.toArray
  | .map b, V => ∃ g k, ρ b = some (g, k) ∧ V = .map (some g)
  | .nilmap, V => V = .map none
  | .bound f fs l, V => ∃ L M, RepL ρ fs L ∧ RepL ρ l M ∧ V = .func (.func f) L.toArray M.toArray
def RepL (ρ : Env) : List AV → List Value → Prop
  | [], L => L = []
  | a :: l, L => ∃ V M, Rep ρ a V ∧ RepL ρ l M ∧ L = V :: M
end
def Env.le (ρ ρ' : Env) : Prop := ∀ b x, ρ b = some x → ρ' b = some x
mutual
theorem Rep.mono {ρ ρ' : Env} (h : ρ.le ρ') : ∀ (v : AV) (V : Value), Rep ρ v V → Rep ρ' v V
  | .int _ _, _, hv => by rw [Rep] at hv ⊢; exact hv
  | .bool _, _, hv => by rw [Rep] at hv ⊢; exact hv
  | .str _, _, hv => by rw [Rep] at hv ⊢; exact hv
  | .nilp, _, hv => by rw [Rep] at hv ⊢; exact hv
  | .nils, _, hv => by rw [Rep] at hv ⊢; exact hv
  | .nilf, _, hv => by rw [Rep] at hv ⊢; exact hv
  | .niliface, _, hv => by rw [Rep] at hv ⊢; exact hv
  | .nilmap, _, hv => by rw [Rep] at hv ⊢; exact hv
  | .ptr b _, _, hv => by rw [Rep] at hv ⊢; obtain ⟨g, k, h1, h2⟩ := hv; exact ⟨g, k, h b _ h1, h2⟩
  | .slice b _ _ _, _, hv => by rw [Rep] at hv ⊢; obtain ⟨g, k, h1, h2⟩ := hv; exact ⟨g, k, h b _ h1, h2⟩
  | .map b, _, hv => by rw [Rep] at hv ⊢; obtain ⟨g, k, h1, h2⟩ := hv; exact ⟨g, k, h b _ h1, h2⟩
  | .func _ l, _, hv => by rw [Rep] at hv ⊢; obtain ⟨L, h1, h2⟩ := hv; exact ⟨L, RepL.mono h l L h1, h2⟩
  | .agg l, _, hv => by rw [Rep] at hv ⊢; obtain ⟨L, h1, h2⟩ := hv; exact ⟨L, RepL.mono h l L h1, h2⟩
  | .tup l, _, hv => by rw [Rep] at hv ⊢; obtain ⟨L, h1, h2⟩ := hv; exact ⟨L, RepL.mono h l L h1, h2⟩
  | .iface _ v, _, hv => by rw [Rep] at hv ⊢; obtain ⟨U, h1, h2⟩ := hv; exact ⟨U, Rep.mono h v U h1, h2⟩
  | .bound _ fs l, _, hv => by rw [Rep] at hv ⊢; obtain ⟨L, M, h1, h2, h3⟩ := hv; exact ⟨L, M, RepL.mono h fs L h1, RepL.mono h l M h2, h3⟩
theorem RepL.mono {ρ ρ' : Env} (h : ρ.le ρ') : ∀ (l : List AV) (L : List Value), RepL ρ l L → RepL ρ' l L
  | [], _, hv => by rw [RepL] at hv ⊢; exact hv
  | a :: l, _, hv => by
    rw [RepL] at hv ⊢
    obtain ⟨V, M, h1, h2, h3⟩ := hv
    exact ⟨V, M, Rep.mono h a V h1, RepL.mono h l M h2, h3⟩
end
theorem RepL.length {ρ : Env} : ∀ (l : List AV) (L : List Value), RepL ρ l L → L.length = l.length
  | [], _, h => by rw [RepL] at h; rw [h]; rfl
  | a :: l, _, h => by
    rw [RepL] at h
    obtain ⟨V, M, _, h2, h3⟩ := h
    rw [h3, List.length_cons, List.length_cons, RepL.length l M h2]
theorem RepL.get {ρ : Env} : ∀ (l : List AV) (L : List Value), RepL ρ l L → ∀ (i : Nat) (v : AV), l[i]? = some v → ∃ V, L[i]? = some V ∧ Rep ρ v V
  | [], _, _, i, v, hi => by simp at hi
  | a :: l, _, h, i, v, hi => by
    rw [RepL] at h
    obtain ⟨V, M, h1, h2, h3⟩ := h
    subst h3
    cases i with
    | zero => exact ⟨V, rfl, by simpa using (Option.some.inj hi) ▸ h1⟩
    | succ i => exact RepL.get l M h2 i v (by simpa using hi)
theorem RepL.app {ρ : Env} : ∀ (l : List AV) (L : List Value), RepL ρ l L → ∀ (m : List AV) (M : List Value), RepL ρ m M → RepL ρ (l ++ m) (L ++ M)
  | [], _, h, m, M, h' => by rw [RepL] at h; subst h; exact h'
  | a :: l, _, h, m, M, h' => by
    rw [RepL] at h
    obtain ⟨V, N, h1, h2, h3⟩ := h
    subst h3
    rw [List.cons_append, List.cons_append, RepL]
    exact ⟨V, _, h1, RepL.app l N h2 m M h', rfl⟩
theorem RepL.one {ρ : Env} {v : AV} {V : Value} (h : Rep ρ v V) : RepL ρ [v] [V] := by
  rw [RepL]
  exact ⟨V, [], h, by rw [RepL], rfl⟩
theorem RepL.drop {ρ : Env} : ∀ (n : Nat) (l : List AV) (L : List Value), RepL ρ l L → RepL ρ (l.drop n) (L.drop n)
  | 0, l, L, h => by simpa using h
  | n + 1, [], L, h => by rw [RepL] at h; subst h; simp [RepL]
  | n + 1, a :: l, L, h => by
    rw [RepL] at h
    obtain ⟨V, M, _, h2, h3⟩ := h
    subst h3
    simpa using RepL.drop n l M h2
theorem RepL.take {ρ : Env} : ∀ (n : Nat) (l : List AV) (L : List Value), RepL ρ l L → RepL ρ (l.take n) (L.take n)
  | 0, l, L, h => by simp [RepL]
  | n + 1, [], L, h => by rw [RepL] at h; subst h; simp [RepL]
  | n + 1, a :: l, L, h => by
    rw [RepL] at h
    obtain ⟨V, M, h1, h2, h3⟩ := h
    subst h3
    rw [List.take_succ_cons, List.take_succ_cons, RepL]
    exact ⟨V, _, h1, RepL.take n l M h2, rfl⟩
/-- Constants. -/
def ofOne : Value → Option AV
  | .int k n => some (.int k n)
  | .bool b => some (.bool b)
  | .string s => some (.str s.data.toList)
  | .pointer none => some .nilp
  | .slice none 0 0 => some .nils
  | .nilFunc => some .nilf
  | .nilIface => some .niliface
  | .map none => some .nilmap
  | _ => none
noncomputable def ofList (l : List Value) : Option (List AV) :=
  List.rec (motive := fun _ => Option (List AV)) (some []) (fun v _ ih => (ofOne v).bind fun a => ih.map fun m => a :: m) l
noncomputable def ofValue : Value → Option AV
  | .agg cs => (ofList cs.toList).map .agg
  | .tuple cs => (ofList cs.toList).map .tup
  | v => ofOne v
theorem ofOne_rep {ρ : Env} {v : Value} {a : AV} (h : ofOne v = some a) : Rep ρ a v := by
  unfold ofOne at h
  split at h <;> first | (injection h with h; subst h; simp [Rep]) | cases h
theorem ofList_rep {ρ : Env} : ∀ (l : List Value) (m : List AV), ofList l = some m → RepL ρ m l
  | [], m, h => by
    have : (some [] : Option (List AV)) = some m := h
    injection this with this
    subst this
    simp [RepL]
  | v :: l, m, h => by
    have h' : ((ofOne v).bind fun a => (ofList l).map fun m => a :: m) = some m := h
    cases h1 : ofOne v with
    | none => rw [h1] at h'; cases h'
    | some a =>
      rw [h1] at h'
      cases h2 : ofList l with
      | none => rw [h2] at h'; cases h'
      | some k =>
        rw [h2] at h'
        injection h' with h'
        subst h'
        rw [RepL]
        exact ⟨v, l, ofOne_rep h1, ofList_rep l k h2, rfl⟩
theorem ofValue_rep {ρ : Env} {v : Value} {a : AV} (h : ofValue v = some a) : Rep ρ a v := by
  unfold ofValue at h
  split at h
  · rename_i cs
    cases h1 : ofList cs.toList with
    | none => rw [h1] at h; cases h
    | some k =>
      rw [h1] at h
      injection h with h
      subst h
      rw [Rep]
      exact ⟨_, ofList_rep _ _ h1, rfl⟩
  · rename_i cs
    cases h1 : ofList cs.toList with
    | none => rw [h1] at h; cases h
    | some k =>
      rw [h1] at h
      injection h with h
      subst h
      rw [Rep]
      exact ⟨_, ofList_rep _ _ h1, rfl⟩
  · exact ofOne_rep h
/-- Is it the value of one cell? -/
def AV.one : AV → Bool
  | .agg _ => false
  | .tup _ => false
  | _ => true
theorem Rep.one {ρ : Env} {v : AV} {V : Value} (h : Rep ρ v V) (h1 : v.one = true) : V.oneCell' = true := by
  cases v <;> simp only [Rep, AV.one] at h h1
  all_goals first | (obtain ⟨_, _, _, rfl, _⟩ := h; rfl) | (obtain ⟨_, _, _, _, rfl⟩ := h; rfl) | (obtain ⟨_, _, _, rfl⟩ := h; rfl) | (obtain ⟨_, _, rfl⟩ := h; rfl) | (subst h; rfl) | cases h1
/-- A value's cells. -/
def AV.cells : AV → List AV
  | .agg l => l
  | v => [v]
theorem Rep.cells {ρ : Env} {v : AV} {V : Value} (h : Rep ρ v V) : RepL ρ v.cells V.cells.toList := by
  cases v
  case agg l =>
    rw [Rep] at h
    obtain ⟨L, h1, rfl⟩ := h
    simpa [AV.cells, Value.cells] using h1
  all_goals
    have hc : V.cells = #[V] := by
      simp only [Rep] at h
      first | (obtain ⟨_, _, _, rfl, _⟩ := h; rfl) | (obtain ⟨_, _, _, _, rfl⟩ := h; rfl) | (obtain ⟨_, _, _, rfl⟩ := h; rfl) | (obtain ⟨_, _, rfl⟩ := h; rfl) | (subst h; rfl)
    rw [hc]
    exact RepL.one h

end Go.Proofs.YtajmkdbokdjmeaaGreat
/- An evaluator: memory, and what a step leaves of it. Kit only. -/
namespace Go.Proofs.YtajmkdbokdjmeaaGreat
open Go.RowKit
inductive AB where
  | row (t : Tr AV) (e : TypeId) (sz : Nat)
  | dead
structure Mem where
  made ::
  h : Tr AB
  cnt : Nat
/-- What is hidden; below which number nothing may be written; how many variables of the program there are. -/
structure Ctx where
  made ::
  P : Program
  hid : List (Nat × Nat)
  bar : Nat
  ng : Nat
noncomputable def seenIn (l : List (Nat × Nat)) (b : Nat) : Bool :=
  List.rec (motive := fun _ => Bool) true (fun r _ ih => cond (Nat.ble r.1 b) (cond (Nat.ble r.2 b) ih false) ih) l
theorem seenIn_iff (l : List (Nat × Nat)) (b : Nat) : seenIn l b = true ↔ ∀ r ∈ l, b < r.1 ∨ r.2 ≤ b := by
  induction l with
  | nil => exact ⟨fun _ r hr => by simp at hr, fun _ => rfl⟩
  | cons r l ih =>
    show (cond (Nat.ble r.1 b) (cond (Nat.ble r.2 b) (seenIn l b) false) (seenIn l b)) = true ↔ _
    cases h1 : Nat.ble r.1 b
    · have h1' : ¬ r.1 ≤ b := Nat.not_le_of_not_ble_eq_true (by rw [h1]; simp)
      simp only [cond_false, ih, List.mem_cons, forall_eq_or_imp]
      exact ⟨fun h => ⟨.inl (by omega), h⟩, fun h => h.2⟩
    · have h1' := Nat.le_of_ble_eq_true h1
      cases h2 : Nat.ble r.2 b
      · have h2' : ¬ r.2 ≤ b := Nat.not_le_of_not_ble_eq_true (by rw [h2]; simp)
        simp only [cond_false, cond_true, List.mem_cons, forall_eq_or_imp]
        exact ⟨fun h => (by cases h), fun h => (by rcases h.1 with h | h <;> omega)⟩
      · have h2' := Nat.le_of_ble_eq_true h2
        simp only [cond_true, ih, List.mem_cons, forall_eq_or_imp]
        exact ⟨fun h => ⟨.inr h2', h⟩, fun h => h.2⟩
def Live (c : Ctx) (m : Mem) (b : Nat) (t : Tr AV) (e : TypeId) (sz : Nat) : Prop := seenIn c.hid b = true ∧ m.h.get b = some (.row t e sz)
/-- Entries of a map: key, value, and when it was made. -/
inductive EntR (ρ : Env) : List AV → List MapEntry → Prop
  | nil : EntR ρ [] []
  | cons {k v : AV} {n : Nat} {K V : Value} {l : List AV} {es : List MapEntry} : Rep ρ k K → Rep ρ v V → EntR ρ l es → EntR ρ (.tup [k, v, .int .i64 (Int.ofNat n)] :: l) ({ key := K, val := V, born := n } :: es)
theorem EntR.mono {ρ ρ' : Env} (h : ρ.le ρ') {l : List AV} {es : List MapEntry} (he : EntR ρ l es) : EntR ρ' l es := by
  induction he with
  | nil => exact .nil
  | cons hk hv _ ih => exact .cons (hk.mono h) (hv.mono h) ih
/-- A row of cells in memory reads as a tree says. -/
def CellRep (ρ : Env) (W : World) (g k : Nat) (t : Tr AV) (e : TypeId) (sz : Nat) : Prop :=
  k ≤ maxLen ∧ ∃ C : Array Value, W.heap[g]? = some (.cells C e (0, 0)) ∧ C.size = k * sz ∧ ∀ j v, t.get j = some v → ∃ V, C[j]? = some V ∧ Rep ρ v V
/-- A map in memory: its entries stand at 0, its clock at 1. -/
def MapRep (ρ : Env) (W : World) (g : Nat) (t : Tr AV) : Prop :=
  ∃ l n es, t.get 0 = some (.tup l) ∧ t.get 1 = some (.int .i64 (Int.ofNat n)) ∧ W.heap[g]? = some (.map es n) ∧ EntR ρ l es.toList
/-- A row that is read alone. -/
def RoRep (ρ : Env) (W : World) (g : Nat) (t : Tr AV) : Prop :=
  ∃ (C : Array Value) (e : TypeId) (fr : Nat × Nat), W.heap[g]? = some (.cells C e fr) ∧ ∀ j v, t.get j = some v → ∃ V, C[j]? = some V ∧ Rep ρ v V
/-- Type 0 tells a map, 1 a row that is read alone; a row of cells of type e has e + 2. -/
def RowRep (ρ : Env) (W : World) (g k : Nat) (t : Tr AV) : Nat → Nat → Prop
  | 0, _ => MapRep ρ W g t
  | 1, _ => RoRep ρ W g t
  | e + 2, sz => CellRep ρ W g k t e sz
structure HRep (c : Ctx) (ρ : Env) (m : Mem) (W : World) : Prop where
  row : ∀ b t e sz, Live c m b t e sz → ∃ g k, ρ b = some (g, k) ∧ RowRep ρ W g k t e sz
  inj : ∀ b t e sz b' t' e' sz' g k k', Live c m b t e sz → Live c m b' t' e' sz' → ρ b = some (g, k) → ρ b' = some (g, k') → b = b'
  glo : ∀ g, g < c.ng → ∃ k, ρ g = some (g, k)
/-- What a memory knows lies below its count. -/
def Mem.wf (m : Mem) : Prop := ∀ b x, m.h.get b = some x → b < m.cnt
structure Stp (c : Ctx) (ρ : Env) (m : Mem) (W : World) (ρ' : Env) (m' : Mem) (W' : World) : Prop where
  cnt : m.cnt ≤ m'.cnt
  bars : ∀ b, b < c.bar → m'.h.get b = m.h.get b
  le : ρ.le ρ'
  new : ∀ b, b < m.cnt ∨ m'.cnt ≤ b → ρ' b = ρ b
  os : W'.os = W.os
  tape : W'.tape = W.tape
  output : W'.output = W.output
  size : W.heap.size ≤ W'.heap.size
  frame : ∀ g, g < W.heap.size → (∀ b t e sz k, c.bar ≤ b → Live c m b t e sz → ρ b ≠ some (g, k)) → W'.heap[g]? = W.heap[g]?
  back : ∀ b t e sz g k, c.bar ≤ b → Live c m' b t e sz → ρ' b = some (g, k) → g < W.heap.size → ∃ b0 t0 e0 sz0 k0, c.bar ≤ b0 ∧ Live c m b0 t0 e0 sz0 ∧ ρ b0 = some (g, k0)
  rep : HRep c ρ' m' W'
  wf : m.wf → m'.wf
theorem Env.le_refl (ρ : Env) : ρ.le ρ := fun _ _ h => h
theorem Env.le_trans {ρ σ τ : Env} (h : ρ.le σ) (k : σ.le τ) : ρ.le τ := fun b x hb => k b x (h b x hb)
theorem CellRep.same {ρ ρ' : Env} {W W' : World} {g k : Nat} {t : Tr AV} {e : TypeId} {sz : Nat} (h : CellRep ρ W g k t e sz) (hρ : ρ.le ρ') (hg : W'.heap[g]? = W.heap[g]?) : CellRep ρ' W' g k t e sz := by
  obtain ⟨h0, C, h1, h2, h3⟩ := h
  refine ⟨h0, C, hg.trans h1, h2, fun j v hj => ?_⟩
  obtain ⟨V, h4, h5⟩ := h3 j v hj
  exact ⟨V, h4, h5.mono hρ⟩
theorem MapRep.same {ρ ρ' : Env} {W W' : World} {g : Nat} {t : Tr AV} (h : MapRep ρ W g t) (hρ : ρ.le ρ') (hg : W'.heap[g]? = W.heap[g]?) : MapRep ρ' W' g t := by
  obtain ⟨l, n, es, h1, h2, h3, h4⟩ := h
  exact ⟨l, n, es, h1, h2, hg.trans h3, h4.mono hρ⟩
theorem RoRep.same {ρ ρ' : Env} {W W' : World} {g : Nat} {t : Tr AV} (h : RoRep ρ W g t) (hρ : ρ.le ρ') (hg : W'.heap[g]? = W.heap[g]?) : RoRep ρ' W' g t := by
  obtain ⟨C, e, fr, h1, h3⟩ := h
  refine ⟨C, e, fr, hg.trans h1, fun j v hj => ?_⟩
  obtain ⟨V, h4, h5⟩ := h3 j v hj
  exact ⟨V, h4, h5.mono hρ⟩
theorem RowRep.same {ρ ρ' : Env} {W W' : World} {g k : Nat} {t : Tr AV} {sz : Nat} (hρ : ρ.le ρ') (hg : W'.heap[g]? = W.heap[g]?) : ∀ {e : Nat}, RowRep ρ W g k t e sz → RowRep ρ' W' g k t e sz
  | 0, h => MapRep.same h hρ hg
  | 1, h => RoRep.same h hρ hg
  | _ + 2, h => CellRep.same h hρ hg
theorem RowRep.lt {ρ : Env} {W : World} {g k : Nat} {t : Tr AV} {sz : Nat} : ∀ {e : Nat}, RowRep ρ W g k t e sz → g < W.heap.size
  | 0, h => by
    obtain ⟨_, _, es, _, _, h1, _⟩ := h
    exact (Array.getElem?_eq_some_iff.1 h1).1
  | 1, h => by
    obtain ⟨C, _, _, h1, _⟩ := h
    exact (Array.getElem?_eq_some_iff.1 h1).1
  | _ + 2, h => by
    obtain ⟨_, C, h1, _⟩ := h
    exact (Array.getElem?_eq_some_iff.1 h1).1
/-- Nothing but draws. -/
theorem Stp.quiet {c : Ctx} {ρ : Env} {m : Mem} {W W' : World} (h : HRep c ρ m W) (hh : W'.heap = W.heap) (ho : W'.os = W.os) (ht : W'.tape = W.tape) (hp : W'.output = W.output) : Stp c ρ m W ρ m W' where
  cnt := Nat.le_refl _
  bars _ _ := rfl
  le := Env.le_refl ρ
  new _ _ := rfl
  os := ho
  tape := ht
  output := hp
  size := by rw [hh]; exact Nat.le_refl _
  frame g _ _ := by rw [hh]
  back b t e sz g k h1 h2 h3 _ := ⟨b, t, e, sz, k, h1, h2, h3⟩
  rep := ⟨fun b t e sz hl => by
    obtain ⟨g, k, h1, h2⟩ := h.row b t e sz hl
    exact ⟨g, k, h1, RowRep.same (Env.le_refl ρ) (by rw [hh]) h2⟩, h.inj, h.glo⟩
  wf h := h
theorem Stp.refl {c : Ctx} {ρ : Env} {m : Mem} {W : World} (h : HRep c ρ m W) : Stp c ρ m W ρ m W := Stp.quiet h rfl rfl rfl rfl
theorem Stp.trans {c : Ctx} {ρ ρ1 ρ2 : Env} {m m1 m2 : Mem} {W W1 W2 : World} (h : Stp c ρ m W ρ1 m1 W1) (k : Stp c ρ1 m1 W1 ρ2 m2 W2) : Stp c ρ m W ρ2 m2 W2 where
  cnt := Nat.le_trans h.cnt k.cnt
  bars b hb := (k.bars b hb).trans (h.bars b hb)
  le := Env.le_trans h.le k.le
  new b hb := by
    have h1 := h.cnt
    have h2 := k.cnt
    rcases hb with hb | hb
    · exact (k.new b (.inl (by omega))).trans (h.new b (.inl hb))
    · exact (k.new b (.inr hb)).trans (h.new b (.inr (by omega)))
  os := k.os.trans h.os
  tape := k.tape.trans h.tape
  output := k.output.trans h.output
  size := Nat.le_trans h.size k.size
  frame g hg hn := by
    refine (k.frame g (Nat.lt_of_lt_of_le hg h.size) (fun b t e sz q h1 h2 h3 => ?_)).trans (h.frame g hg hn)
    obtain ⟨b0, t0, e0, sz0, k0, g1, g2, g3⟩ := h.back b t e sz g q h1 h2 h3 hg
    exact hn b0 t0 e0 sz0 k0 g1 g2 g3
  back b t e sz g q h1 h2 h3 hg := by
    obtain ⟨b0, t0, e0, sz0, k0, g1, g2, g3⟩ := k.back b t e sz g q h1 h2 h3 (Nat.lt_of_lt_of_le hg h.size)
    exact h.back b0 t0 e0 sz0 g k0 g1 g2 g3 hg
  rep := k.rep
  wf hw := k.wf (h.wf hw)
noncomputable def treeOf (l : List AV) (o : Nat) (t : Tr AV) : Tr AV :=
  List.rec (motive := fun _ => Nat → Tr AV → Tr AV) (fun _ t => t) (fun v _ ih o t => ih (Nat.succ o) (t.set o v)) l o t
theorem treeOf_nil (o : Nat) (t : Tr AV) : treeOf [] o t = t := rfl
theorem treeOf_cons (v : AV) (l : List AV) (o : Nat) (t : Tr AV) : treeOf (v :: l) o t = treeOf l (o + 1) (t.set o v) := rfl
theorem treeOf_get : ∀ (l : List AV) (o : Nat) (t : Tr AV) (j : Nat) (v : AV), (treeOf l o t).get j = some v → (o ≤ j ∧ j < o + l.length ∧ l[j - o]? = some v) ∨ ((j < o ∨ o + l.length ≤ j) ∧ t.get j = some v)
  | [], o, t, j, v, h => .inr ⟨by simp; omega, h⟩
  | a :: l, o, t, j, v, h => by
    rw [treeOf_cons] at h
    rcases treeOf_get l (o + 1) _ j v h with ⟨h1, h2, h3⟩ | ⟨h1, h2⟩
    · refine .inl ⟨by omega, by simp; omega, ?_⟩
      rw [show j - o = (j - (o + 1)) + 1 by omega, List.getElem?_cons_succ]
      exact h3
    · rcases t.get_set o a j v h2 with ⟨h3, h4⟩ | ⟨h3, h4⟩
      · subst h3; subst h4
        exact .inl ⟨Nat.le_refl _, by simp, by simp⟩
      · exact .inr ⟨by simp; omega, h4⟩
/-- A new row. -/
theorem Stp.allocG {c : Ctx} {ρ : Env} {m : Mem} {W : World} (h : HRep c ρ m W) (hb : c.bar ≤ m.cnt) (hf : ρ m.cnt = none) {t : Tr AV} {e sz k : Nat} {ob : Obj} (hrow : RowRep ρ (W.alloc ob) W.heap.size k t e sz) :
    ∃ ρ' : Env, ρ' m.cnt = some (W.heap.size, k) ∧ Stp c ρ m W ρ' ⟨m.h.set m.cnt (.row t e sz), m.cnt + 1⟩ (W.alloc ob) := by
  have hle : ρ.le (fun b => if b = m.cnt then some (W.heap.size, k) else ρ b) := fun b x hx => by
    have : b ≠ m.cnt := fun e => by rw [e, hf] at hx; cases hx
    simp [this, hx]
  have hlive : ∀ b t' e' sz', Live c ⟨m.h.set m.cnt (.row t e sz), m.cnt + 1⟩ b t' e' sz' → (b = m.cnt ∧ t' = t ∧ e' = e ∧ sz' = sz) ∨ (b ≠ m.cnt ∧ Live c m b t' e' sz') := by
    intro b t' e' sz' hl
    rcases m.h.get_set _ _ _ _ hl.2 with ⟨h1, h2⟩ | ⟨h1, h2⟩
    · injection h2 with h2 h3 h4
      exact .inl ⟨h1, h2, h3, h4⟩
    · exact .inr ⟨h1, hl.1, h2⟩
  have hlt : ∀ b t' e' sz' g k', Live c m b t' e' sz' → ρ b = some (g, k') → g < W.heap.size := by
    intro b t' e' sz' g k' hl hg
    obtain ⟨g', k'', h1, h2⟩ := h.row _ _ _ _ hl
    rw [hg] at h1
    injection h1 with h1
    injection h1 with h1 _
    subst h1
    exact h2.lt
  refine ⟨fun b => if b = m.cnt then some (W.heap.size, k) else ρ b, by simp, ⟨by simp, fun b hb' => Tr.get_set_ne _ _ _ _ (by omega), hle, fun b hb' => ?_, rfl, rfl, rfl, by simp, fun g hg _ => heap_alloc_old W _ hg, ?_, ⟨?_, ?_, ?_⟩, fun hw b x hx => ?_⟩⟩
  · have : b ≠ m.cnt := by
      rcases hb' with hb' | hb'
      · omega
      · dsimp only at hb'; omega
    simp [this]
  · intro b t' e' sz' g q h1 h2 h3 h4
    rcases hlive _ _ _ _ h2 with ⟨rfl, _⟩ | ⟨h5, h6⟩
    · simp only [if_true] at h3
      injection h3 with h3
      injection h3 with h3 _
      omega
    · simp only [h5, if_false] at h3
      exact ⟨b, t', e', sz', q, h1, h6, h3⟩
  · intro b t' e' sz' hl
    rcases hlive _ _ _ _ hl with ⟨rfl, rfl, rfl, rfl⟩ | ⟨h5, h6⟩
    · exact ⟨W.heap.size, k, by simp, RowRep.same hle rfl hrow⟩
    · obtain ⟨g, k', h1, h2⟩ := h.row _ _ _ _ h6
      exact ⟨g, k', hle _ _ h1, RowRep.same hle (heap_alloc_old W _ h2.lt) h2⟩
  · intro b t' e' sz' b' t2 e2 sz2 g q q' hl hl' h1 h2
    rcases hlive _ _ _ _ hl with ⟨rfl, _⟩ | ⟨h5, h6⟩ <;> rcases hlive _ _ _ _ hl' with ⟨rfl, _⟩ | ⟨h7, h8⟩
    · rfl
    · simp only [if_true, h7, if_false] at h1 h2
      injection h1 with h1
      injection h1 with h1 _
      have := hlt _ _ _ _ _ _ h8 h2
      omega
    · simp only [if_true, h5, if_false] at h1 h2
      injection h2 with h2
      injection h2 with h2 _
      have := hlt _ _ _ _ _ _ h6 h1
      omega
    · simp only [h5, h7, if_false] at h1 h2
      exact h.inj _ _ _ _ _ _ _ _ _ _ _ h6 h8 h1 h2
  · intro g hg
    obtain ⟨k', hk'⟩ := h.glo g hg
    exact ⟨k', hle _ _ hk'⟩
  · rcases m.h.get_set _ _ _ _ hx with ⟨h1, _⟩ | ⟨_, h2⟩
    · show b < m.cnt + 1
      omega
    · have := hw b x h2
      show b < m.cnt + 1
      omega
theorem Stp.alloc {c : Ctx} {ρ : Env} {m : Mem} {W : World} (h : HRep c ρ m W) (hb : c.bar ≤ m.cnt) (hf : ρ m.cnt = none) {t : Tr AV} {e : TypeId} {sz k : Nat} {C : Array Value} (hk : k ≤ maxLen) (hs : C.size = k * sz)
    (hC : ∀ j v, t.get j = some v → ∃ V, C[j]? = some V ∧ Rep ρ v V) :
    ∃ ρ' : Env, ρ' m.cnt = some (W.heap.size, k) ∧ Stp c ρ m W ρ' ⟨m.h.set m.cnt (.row t (e + 2) sz), m.cnt + 1⟩ (W.alloc (.cells C e)) :=
  Stp.allocG (e := e + 2) h hb hf ⟨hk, C, heap_alloc_new W _, hs, hC⟩
/-- A row is written. -/
theorem Stp.put {c : Ctx} {ρ : Env} {m : Mem} {W W' : World} (h : HRep c ρ m W) {b : Nat} (hb : c.bar ≤ b) {t t' : Tr AV} {e : TypeId} {sz : Nat} (hl : Live c m b t e sz) {g k : Nat} (hg : ρ b = some (g, k))
    (hoff : ∀ q, q ≠ g → W'.heap[q]? = W.heap[q]?) (ho : W'.os = W.os) (ht : W'.tape = W.tape) (hp : W'.output = W.output) (hs : W'.heap.size = W.heap.size) (hrow : RowRep ρ W' g k t' e sz) :
    Stp c ρ m W ρ ⟨m.h.set b (.row t' e sz), m.cnt⟩ W' := by
  have hlive : ∀ b' t2 e' sz', Live c ⟨m.h.set b (.row t' e sz), m.cnt⟩ b' t2 e' sz' → (b' = b ∧ t2 = t' ∧ e' = e ∧ sz' = sz) ∨ (b' ≠ b ∧ Live c m b' t2 e' sz') := by
    intro b' t2 e' sz' hl'
    rcases m.h.get_set _ _ _ _ hl'.2 with ⟨h1, h2⟩ | ⟨h1, h2⟩
    · injection h2 with h2 h3 h4
      exact .inl ⟨h1, h2, h3, h4⟩
    · exact .inr ⟨h1, hl'.1, h2⟩
  refine ⟨Nat.le_refl _, fun b' hb' => Tr.get_set_ne _ _ _ _ (by omega), Env.le_refl ρ, fun _ _ => rfl, ho, ht, hp, by omega, fun q hq hn => hoff q (fun e => hn b _ _ _ k hb hl (e ▸ hg)), ?_, ⟨?_, ?_, h.glo⟩, fun hw x y hx => ?_⟩
  · intro b' t2 e' sz' g' q h1 h2 h3 h4
    rcases hlive _ _ _ _ h2 with ⟨rfl, _⟩ | ⟨h5, h6⟩
    · exact ⟨b', t, e, sz, q, h1, hl, h3⟩
    · exact ⟨b', t2, e', sz', q, h1, h6, h3⟩
  · intro b' t2 e' sz' hl'
    rcases hlive _ _ _ _ hl' with ⟨rfl, rfl, rfl, rfl⟩ | ⟨h5, h6⟩
    · exact ⟨g, k, hg, hrow⟩
    · obtain ⟨g', k', h1, h2⟩ := h.row _ _ _ _ h6
      exact ⟨g', k', h1, RowRep.same (Env.le_refl ρ) (hoff g' (fun e => h5 (h.inj _ _ _ _ _ _ _ _ _ _ _ h6 hl (e ▸ h1) hg))) h2⟩
  · intro b' t2 e' sz' b2 t3 e2 sz2 g' q q' hl1 hl2 h1 h2
    have l1 : ∃ t e sz, Live c m b' t e sz := by
      rcases hlive _ _ _ _ hl1 with ⟨rfl, _⟩ | ⟨_, h6⟩
      · exact ⟨_, _, _, hl⟩
      · exact ⟨_, _, _, h6⟩
    have l2 : ∃ t e sz, Live c m b2 t e sz := by
      rcases hlive _ _ _ _ hl2 with ⟨rfl, _⟩ | ⟨_, h6⟩
      · exact ⟨_, _, _, hl⟩
      · exact ⟨_, _, _, h6⟩
    obtain ⟨_, _, _, l1⟩ := l1
    obtain ⟨_, _, _, l2⟩ := l2
    exact h.inj _ _ _ _ _ _ _ _ _ _ _ l1 l2 h1 h2
  · rcases m.h.get_set _ _ _ _ hx with ⟨h1, _⟩ | ⟨_, h2⟩
    · subst h1
      exact hw _ _ hl.2
    · exact hw x y h2
/-- A row's cell is stored. -/
theorem RowRep.set {ρ : Env} {W : World} {g k : Nat} {t : Tr AV} {e : TypeId} {sz : Nat} (h : RowRep ρ W g k t (e + 2) sz) {j : Nat} {v0 : AV} (hj : t.get j = some v0) {v : AV} {V : Value} (hv : Rep ρ v V) : RowRep ρ (W.setCell ⟨g, j, none⟩ V) g k (t.set j v) (e + 2) sz := by
  obtain ⟨h0, C, h1, h2, h3⟩ := h
  refine ⟨h0, C.setIfInBounds j V, by simp [World.setCell, Array.getElem?_modify, h1], by simpa using h2, fun i u hi => ?_⟩
  rcases t.get_set j v i u hi with ⟨rfl, rfl⟩ | ⟨h4, h5⟩
  · obtain ⟨U, h6, _⟩ := h3 i v0 hj
    refine ⟨V, ?_, hv⟩
    have := (Array.getElem?_eq_some_iff.1 h6).1
    simp [this]
  · obtain ⟨U, h6, h7⟩ := h3 i u h5
    exact ⟨U, by rw [Array.getElem?_setIfInBounds_ne (Ne.symm h4)]; exact h6, h7⟩
theorem RowRep.cell {ρ : Env} {W : World} {g k : Nat} {t : Tr AV} {e : TypeId} {sz : Nat} (h : RowRep ρ W g k t (e + 2) sz) {j : Nat} {v : AV} (hj : t.get j = some v) : ∃ V, W.cell? ⟨g, j, none⟩ = some V ∧ W.frozen? ⟨g, j, none⟩ = false ∧ Rep ρ v V := by
  obtain ⟨h0, C, h1, h2, h3⟩ := h
  obtain ⟨V, h4, h5⟩ := h3 j v hj
  exact ⟨V, by simp [World.cell?, h1, h4], by simp [World.frozen?, h1], h5⟩
theorem RowRep.read {ρ : Env} {W : World} {g k : Nat} {t : Tr AV} {e sz : Nat} (h : RowRep ρ W g k t (e + 1) sz) {j : Nat} {v : AV} (hj : t.get j = some v) : ∃ V, W.cell? ⟨g, j, none⟩ = some V ∧ Rep ρ v V := by
  cases e with
  | zero =>
    obtain ⟨C, e, fr, h1, h3⟩ := h
    obtain ⟨V, h4, h5⟩ := h3 j v hj
    exact ⟨V, by simp [World.cell?, h1, h4], h5⟩
  | succ e =>
    obtain ⟨V, h1, _, h2⟩ := RowRep.cell h hj
    exact ⟨V, h1, h2⟩

end Go.Proofs.YtajmkdbokdjmeaaGreat
/- An evaluator: operations that touch no memory. Kit only. -/
namespace Go.Proofs.YtajmkdbokdjmeaaGreat
open Go.RowKit
/-- The temporaries as they are known. -/
def EvR (ρ : Env) (env : Nat → Option AV) (a : Act) : Prop := ∀ t v, env t = some v → Rep ρ v (a.tmps.getD t undef)
noncomputable def opd (c : Ctx) (env : Nat → Option AV) : Operand → Option AV
  | .tmp t => env t
  | .const v => ofValue v
  | .global g => cond (Nat.blt g c.ng) (some (.ptr g 0)) none
  | .func f => some (.func f [])
theorem opd_rep {c : Ctx} {ρ : Env} {env : Nat → Option AV} {a : Act} (hE : EvR ρ env a) (hg : ∀ g, g < c.ng → ∃ k, ρ g = some (g, k)) {x : Operand} {v : AV} (h : opd c env x = some v) : Rep ρ v (a.eval x) := by
  cases x with
  | tmp t => exact hE t v h
  | const u => exact ofValue_rep h
  | global g =>
    have h : cond (Nat.blt g c.ng) (some (AV.ptr g 0)) none = some v := h
    cases hb : Nat.blt g c.ng <;> rw [hb] at h
    · cases h
    · injection h with h
      subst h
      have hlt : g < c.ng := Nat.le_of_ble_eq_true hb
      obtain ⟨k, hk⟩ := hg g hlt
      rw [Rep]
      exact ⟨g, k, hk, rfl⟩
  | func f =>
    injection h with h
    subst h
    rw [Rep]
    exact ⟨[], by rw [RepL], rfl⟩
/-- Lists of operands. -/
noncomputable def opds (c : Ctx) (env : Nat → Option AV) (l : List Operand) : Option (List AV) :=
  List.rec (motive := fun _ => Option (List AV)) (some []) (fun x _ ih => (opd c env x).bind fun v => ih.map fun m => v :: m) l
theorem opds_rep {c : Ctx} {ρ : Env} {env : Nat → Option AV} {a : Act} (hE : EvR ρ env a) (hg : ∀ g, g < c.ng → ∃ k, ρ g = some (g, k)) : ∀ (l : List Operand) (m : List AV), opds c env l = some m → RepL ρ m (l.map a.eval)
  | [], m, h => by
    have : (some [] : Option (List AV)) = some m := h
    injection this with this
    subst this
    simp [RepL]
  | x :: l, m, h => by
    have h' : ((opd c env x).bind fun v => (opds c env l).map fun m => v :: m) = some m := h
    cases h1 : opd c env x with
    | none => rw [h1] at h'; cases h'
    | some v =>
      rw [h1] at h'
      cases h2 : opds c env l with
      | none => rw [h2] at h'; cases h'
      | some k =>
        rw [h2] at h'
        injection h' with h'
        subst h'
        rw [List.map_cons, RepL]
        exact ⟨_, _, opd_rep hE hg h1, opds_rep hE hg l k h2, rfl⟩
noncomputable def evInt (op : BinOp) (k : IntKind) (x y : Int) : Option AV :=
  match op with
  | .add => some (.int k (k.wrap (x + y)))
  | .sub => some (.int k (k.wrap (x - y)))
  | .mul => some (.int k (k.wrap (x * y)))
  | .quo => if y = 0 then none else some (.int k (k.wrap (x.tdiv y)))
  | .rem => if y = 0 then none else some (.int k (x.tmod y))
  | .eql => some (.bool (x == y))
  | .neq => some (.bool (x != y))
  | .lss => some (.bool (x < y))
  | .leq => some (.bool (x ≤ y))
  | .gtr => some (.bool (x > y))
  | .geq => some (.bool (x ≥ y))
  | .and => some (.int k (k.wrap (BitVec.ofInt k.bits x &&& BitVec.ofInt k.bits y).toNat))
  | .or => some (.int k (k.wrap (BitVec.ofInt k.bits x ||| BitVec.ofInt k.bits y).toNat))
  | .xor => some (.int k (k.wrap (BitVec.ofInt k.bits x ^^^ BitVec.ofInt k.bits y).toNat))
  | .andNot => some (.int k (k.wrap (BitVec.ofInt k.bits x &&& ~~~(BitVec.ofInt k.bits y)).toNat))
  | _ => none
noncomputable def evStr (op : BinOp) (x y : List UInt8) : Option AV :=
  match op with
  | .add => cond (Nat.ble (x.length + y.length) 1000000) (some (.str (x ++ y))) none
  | .eql => some (.bool (x == y))
  | .neq => some (.bool !(x == y))
  | _ => none
/-- Which kind of type. -/
inductive Kd where
  | bool | int | string | pointer | slice | map | func | iface | other
def kdOf (P : Program) (t : TypeId) : Kd :=
  match P.underlying t with
  | some .bool => .bool
  | some (.int _) => .int
  | some .string => .string
  | some (.pointer _) => .pointer
  | some (.slice _) => .slice
  | some (.map _ _) => .map
  | some (.func _ _ _) => .func
  | some (.interface _) => .iface
  | _ => .other
noncomputable def evEq (P : Program) (t : TypeId) (x y : AV) : Option Bool :=
  match kdOf P t, x, y with
  | .bool, .bool a, .bool b => some (a == b)
  | .pointer, .nilp, .nilp => some true
  | .pointer, .nilp, .ptr _ _ => some false
  | .pointer, .ptr _ _, .nilp => some false
  | .slice, .nils, .nils => some true
  | .slice, .nils, .slice _ _ _ _ => some false
  | .slice, .slice _ _ _ _, .nils => some false
  | .map, .nilmap, .nilmap => some true
  | .map, .map _, .nilmap => some false
  | .func, .nilf, .nilf => some true
  | .func, .func _ _, .nilf => some false
  | .iface, .iface _ _, .niliface => some false
  | _, _, _ => none
noncomputable def evBin (P : Program) (op : BinOp) (t : TypeId) : AV → AV → Option AV
  | .int k x, .int k' y =>
    match op with
    | .shl => if y < 0 then none else some (.int k (k.wrap (x * 2 ^ (min y.toNat k.bits))))
    | .shr => if y < 0 then none else some (.int k (x.fdiv (2 ^ (min y.toNat k.bits))))
    | _ => if k = k' then evInt op k x y else none
  | .str x, .str y => evStr op x y
  | x, y =>
    match op with
    | .eql => (evEq P t x y).map .bool
    | .neq => (evEq P t x y).map fun b => .bool !b
    | _ => none
theorem bytes_beq (x y : List UInt8) : ((⟨x.toArray⟩ : ByteArray).toList == (⟨y.toArray⟩ : ByteArray).toList) = (x == y) := by
  rw [Lib.toList_data, Lib.toList_data]
/-- One result, nothing touched. -/
def Gives (P : Program) (s : Sem Value) (W : World) (ρ : Env) (v : AV) : Prop := ∃ V, s.run P W = .ok V W ∧ Rep ρ v V
theorem evInt_ok {P : Program} {W : World} {ρ : Env} {op : BinOp} {k : IntKind} {x y : Int} {r : AV} (t : TypeId) (h1 : op ≠ .shl) (h2 : op ≠ .shr) (h : evInt op k x y = some r) : Gives P (binOp op t (.int k x) (.int k y)) W ρ r := by
  cases op <;> simp only [evInt] at h <;> first | exact absurd rfl h1 | exact absurd rfl h2 | (cases h; done) | skip
  all_goals first
    | (injection h with h; subst h; exact ⟨_, by simp [binOp, Op.intArith, Op.intCmp, Op.intBits]; rfl, by simp [Rep]⟩)
    | (split at h
       · cases h
       · rename_i hy
         injection h with h; subst h; exact ⟨_, by simp [binOp, Op.intDiv, hy]; rfl, by simp [Rep]⟩)

end Go.Proofs.YtajmkdbokdjmeaaGreat
/- An evaluator: operations that touch no memory, what they tell. Kit only. -/
namespace Go.Proofs.YtajmkdbokdjmeaaGreat
open Go.RowKit
theorem kd_bool {P : Program} {t : TypeId} (h : kdOf P t = .bool) : P.underlying t = some .bool := by
  unfold kdOf at h; split at h <;> first | assumption | cases h
theorem kd_int {P : Program} {t : TypeId} (h : kdOf P t = .int) : ∃ k, P.underlying t = some (.int k) := by
  unfold kdOf at h; split at h <;> first | exact ⟨_, by assumption⟩ | cases h
theorem kd_string {P : Program} {t : TypeId} (h : kdOf P t = .string) : P.underlying t = some .string := by
  unfold kdOf at h; split at h <;> first | assumption | cases h
theorem kd_pointer {P : Program} {t : TypeId} (h : kdOf P t = .pointer) : ∃ e, P.underlying t = some (.pointer e) := by
  unfold kdOf at h; split at h <;> first | exact ⟨_, by assumption⟩ | cases h
theorem kd_slice {P : Program} {t : TypeId} (h : kdOf P t = .slice) : ∃ e, P.underlying t = some (.slice e) := by
  unfold kdOf at h; split at h <;> first | exact ⟨_, by assumption⟩ | cases h
theorem kd_map {P : Program} {t : TypeId} (h : kdOf P t = .map) : ∃ k e, P.underlying t = some (.map k e) := by
  unfold kdOf at h; split at h <;> first | exact ⟨_, _, by assumption⟩ | cases h
theorem kd_func {P : Program} {t : TypeId} (h : kdOf P t = .func) : ∃ k e v, P.underlying t = some (.func k e v) := by
  unfold kdOf at h; split at h <;> first | exact ⟨_, _, _, by assumption⟩ | cases h
theorem kd_iface {P : Program} {t : TypeId} (h : kdOf P t = .iface) : ∃ m, P.underlying t = some (.interface m) := by
  unfold kdOf at h; split at h <;> first | exact ⟨_, by assumption⟩ | cases h
/-- The guard of equal interfaces is silent. -/
def Tame : Value → Value → Prop
  | .nilIface, .nilIface => False
  | .agg _, .agg _ => False
  | _, _ => True
theorem eqGuard_tame {P : Program} {W : World} {op : BinOp} {t : TypeId} {x y : Operand} {X Y : Value} (h : Tame X Y) : (eqGuard op t x y X Y).run P W = .ok () W := by
  unfold eqGuard
  generalize (!(match op with | .eql => true | .neq => true | _ => false)) = fl
  cases fl
  · simp only [Bool.false_eq_true, if_false]
    split
    · exact h.elim
    · exact h.elim
    · simp
  · simp
theorem evEq_ok {P : Program} {W : World} {ρ : Env} {t : TypeId} {x y : AV} {X Y : Value} {b : Bool} (h : evEq P t x y = some b) (hx : Rep ρ x X) (hy : Rep ρ y Y) : Tame X Y ∧ (Op.equal t X Y).run P W = .ok b W := by
  unfold evEq at h
  unfold Op.equal
  suffices H : Tame X Y ∧ ∀ d : Nat, (Op.equalIn (d + 1) t X Y).run P W = .ok b W from ⟨H.1, H.2 9999⟩
  split at h
  · have hu := kd_bool (by assumption)
    injection h with h
    simp only [Rep] at hx hy
    subst hx; subst hy; subst h
    exact ⟨trivial, fun d => by simp [Op.equalIn, run_underlying hu]⟩
  · obtain ⟨e, hu⟩ := kd_pointer (by assumption)
    injection h with h
    simp only [Rep] at hx hy
    subst hx; subst hy; subst h
    exact ⟨trivial, fun d => by simp [Op.equalIn, run_underlying hu]⟩
  · obtain ⟨e, hu⟩ := kd_pointer (by assumption)
    injection h with h
    simp only [Rep] at hx hy
    obtain ⟨_, _, _, rfl⟩ := hy
    subst hx; subst h
    exact ⟨trivial, fun d => by simp [Op.equalIn, run_underlying hu]⟩
  · obtain ⟨e, hu⟩ := kd_pointer (by assumption)
    injection h with h
    simp only [Rep] at hx hy
    obtain ⟨_, _, _, rfl⟩ := hx
    subst hy; subst h
    exact ⟨trivial, fun d => by simp [Op.equalIn, run_underlying hu]⟩
  · obtain ⟨e, hu⟩ := kd_slice (by assumption)
    injection h with h
    simp only [Rep] at hx hy
    subst hx; subst hy; subst h
    exact ⟨trivial, fun d => by simp [Op.equalIn, run_underlying hu]⟩
  · obtain ⟨e, hu⟩ := kd_slice (by assumption)
    injection h with h
    simp only [Rep] at hx hy
    obtain ⟨_, _, _, rfl, _⟩ := hy
    subst hx; subst h
    exact ⟨trivial, fun d => by simp [Op.equalIn, run_underlying hu]⟩
  · obtain ⟨e, hu⟩ := kd_slice (by assumption)
    injection h with h
    simp only [Rep] at hx hy
    obtain ⟨_, _, _, rfl, _⟩ := hx
    subst hy; subst h
    exact ⟨trivial, fun d => by simp [Op.equalIn, run_underlying hu]⟩
  · obtain ⟨k, e, hu⟩ := kd_map (by assumption)
    injection h with h
    simp only [Rep] at hx hy
    subst hx; subst hy; subst h
    exact ⟨trivial, fun d => by simp [Op.equalIn, run_underlying hu]⟩
  · obtain ⟨k, e, hu⟩ := kd_map (by assumption)
    injection h with h
    simp only [Rep] at hx hy
    obtain ⟨_, _, _, rfl⟩ := hx
    subst hy; subst h
    exact ⟨trivial, fun d => by simp [Op.equalIn, run_underlying hu]⟩
  · obtain ⟨k, e, v, hu⟩ := kd_func (by assumption)
    injection h with h
    simp only [Rep] at hx hy
    subst hx; subst hy; subst h
    exact ⟨trivial, fun d => by simp [Op.equalIn, run_underlying hu]⟩
  · obtain ⟨k, e, v, hu⟩ := kd_func (by assumption)
    injection h with h
    simp only [Rep] at hx hy
    obtain ⟨_, _, rfl⟩ := hx
    subst hy; subst h
    exact ⟨trivial, fun d => by simp [Op.equalIn, run_underlying hu]⟩
  · obtain ⟨m, hu⟩ := kd_iface (by assumption)
    injection h with h
    simp only [Rep] at hx hy
    obtain ⟨_, _, rfl⟩ := hx
    subst hy; subst h
    exact ⟨trivial, fun d => by simp [Op.equalIn, run_underlying hu]⟩
  · cases h
theorem str_app (x y : List UInt8) : ((⟨x.toArray⟩ : ByteArray) ++ ⟨y.toArray⟩) = ⟨(x ++ y).toArray⟩ := by
  apply ByteArray.ext
  simp
theorem str_ext (x : List UInt8) (i j : Nat) : ((⟨x.toArray⟩ : ByteArray).extract i j) = ⟨((x.drop i).take (j - i)).toArray⟩ := by
  apply ByteArray.ext
  simp
theorem str_size (x : List UInt8) : (⟨x.toArray⟩ : ByteArray).size = x.length := by
  show x.toArray.size = _
  simp
theorem str_get (x : List UInt8) (i : Nat) : ((⟨x.toArray⟩ : ByteArray)[i]?) = x[i]? := by
  by_cases h : i < x.length
  · rw [List.getElem?_eq_getElem h]
    rw [getElem?_pos (⟨x.toArray⟩ : ByteArray) i (by show i < x.toArray.size; simpa using h)]
    rfl
  · rw [List.getElem?_eq_none (by omega)]
    rw [getElem?_neg (⟨x.toArray⟩ : ByteArray) i (by show ¬ i < x.toArray.size; simpa using h)]
theorem evStr_ok {P : Program} {W : World} {ρ : Env} {op : BinOp} {x y : List UInt8} {r : AV} (t : TypeId) (h : evStr op x y = some r) : Gives P (binOp op t (.string ⟨x.toArray⟩) (.string ⟨y.toArray⟩)) W ρ r := by
  cases op <;> simp only [evStr] at h <;> first | (cases h; done) | skip
  · cases hb : Nat.ble (x.length + y.length) 1000000 <;> rw [hb] at h
    · cases h
    · injection h with h
      subst h
      have := Nat.le_of_ble_eq_true hb
      have h1 : ¬ (((((⟨x.toArray⟩ : ByteArray).size + (⟨y.toArray⟩ : ByteArray).size : Nat) : Int)) > IntKind.i64.max) := by
        rw [str_size, str_size]
        show ¬ ((x.length + y.length : Nat) : Int) > 9223372036854775807
        omega
      refine ⟨.string ⟨(x ++ y).toArray⟩, ?_, by simp [Rep]⟩
      unfold binOp Op.stringOp
      simp only [h1, if_false, str_app]
      rfl
  · injection h with h
    subst h
    exact ⟨.bool (x == y), by unfold binOp Op.stringOp; simp only [bytes_beq]; rfl, by simp [Rep]⟩
  · injection h with h
    subst h
    exact ⟨.bool (!(x == y)), by unfold binOp Op.stringOp; simp only [bytes_beq]; rfl, by simp [Rep]⟩
/-- Not both numbers, nor both strings. -/
def Plain : Value → Value → Prop
  | .int _ _, .int _ _ => False
  | .float _ _, .float _ _ => False
  | .complex _ _ _, .complex _ _ _ => False
  | .string _, .string _ => False
  | _, _ => True
theorem binOp_eql {t : TypeId} {X Y : Value} (h : Plain X Y) : binOp .eql t X Y = (do pure (.bool (← Op.equal t X Y))) := by
  cases X <;> cases Y <;> first | rfl | exact h.elim
theorem binOp_neq {t : TypeId} {X Y : Value} (h : Plain X Y) : binOp .neq t X Y = (do pure (.bool (!(← Op.equal t X Y)))) := by
  cases X <;> cases Y <;> first | rfl | exact h.elim
theorem evEq_plain {P : Program} {ρ : Env} {t : TypeId} {x y : AV} {X Y : Value} {b : Bool} (h : evEq P t x y = some b) (hx : Rep ρ x X) (hy : Rep ρ y Y) : Plain X Y := by
  unfold evEq at h
  split at h <;> (try simp only [Rep] at hx hy) <;> first
    | (cases h; done)
    | (subst hx; subst hy; trivial)
    | (obtain ⟨_, _, _, rfl⟩ := hy; subst hx; trivial)
    | (obtain ⟨_, _, _, rfl⟩ := hx; subst hy; trivial)
    | (obtain ⟨_, _, _, rfl, _⟩ := hy; subst hx; trivial)
    | (obtain ⟨_, _, _, rfl, _⟩ := hx; subst hy; trivial)
    | (obtain ⟨_, _, rfl⟩ := hx; subst hy; trivial)
    | cases h
theorem evBin_ok {P : Program} {W : World} {ρ : Env} {op : BinOp} {t : TypeId} {x y r : AV} {X Y : Value} (h : evBin P op t x y = some r) (hx : Rep ρ x X) (hy : Rep ρ y Y) : Tame X Y ∧ Gives P (binOp op t X Y) W ρ r := by
  unfold evBin at h
  split at h
  · rename_i k x k' y
    simp only [Rep] at hx hy
    subst hx; subst hy
    refine ⟨trivial, ?_⟩
    split at h
    · split at h
      · cases h
      · rename_i hn
        injection h with h
        subst h
        exact ⟨_, by simp [binOp, Op.shift, hn]; rfl, by simp [Rep]⟩
    · split at h
      · cases h
      · rename_i hn
        injection h with h
        subst h
        exact ⟨_, by simp [binOp, Op.shift, hn]; rfl, by simp [Rep]⟩
    · split at h
      · rename_i hk
        subst hk
        exact evInt_ok t (by assumption) (by assumption) h
      · cases h
  · rename_i x y
    simp only [Rep] at hx hy
    subst hx; subst hy
    exact ⟨trivial, evStr_ok t h⟩
  · split at h
    · cases he : evEq P t x y with
      | none => rw [he] at h; cases h
      | some b =>
        rw [he] at h
        injection h with h
        subst h
        obtain ⟨h1, h2⟩ := evEq_ok (W := W) he hx hy
        refine ⟨h1, .bool b, ?_, by simp [Rep]⟩
        rw [binOp_eql (evEq_plain he hx hy)]
        simp [h2]
    · cases he : evEq P t x y with
      | none => rw [he] at h; cases h
      | some b =>
        rw [he] at h
        injection h with h
        subst h
        obtain ⟨h1, h2⟩ := evEq_ok (W := W) he hx hy
        refine ⟨h1, .bool (!b), ?_, by simp [Rep]⟩
        rw [binOp_neq (evEq_plain he hx hy)]
        simp [h2]
    · cases h

end Go.Proofs.YtajmkdbokdjmeaaGreat
