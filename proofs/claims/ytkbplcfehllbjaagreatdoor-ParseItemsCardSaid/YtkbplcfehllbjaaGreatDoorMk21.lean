/- Merged: G5, G3, G6. -/
import Derived.Test.YtkbplcfehllbjaaGreatDoorMk20
/- Plain: no error is without a number; what is read ends ahead of the last token. -/
namespace Go.Proofs.YtkbplcfehllbjaaGreatDoor
/-- The rests of a list whose last token is the end of the source. -/
structure OkL (T l : List T4) : Prop where
  suf : l <:+ T
  ne : l ≠ []
structure Ends (T : List T4) : Prop where
  last : ∀ x, [x] <:+ T → x.kind = 0 ∧ x.text = []
def Pz {α : Type} (T : List T4) : PR α → Prop
  | .ok _ r => OkL T r
  | .err _ e => e ≠ 0
def Fz {α : Type} (T : List T4) (p : List T4 → PR α) : Prop := ∀ l, OkL T l → Pz T (p l)
section
variable {T : List T4}
theorem Pz.bind {α β : Type} {x : PR α} {f : α → List T4 → PR β} (h : Pz T x) (k : ∀ a r, OkL T r → Pz T (f a r)) : Pz T (x.bind f) := by
  cases x with
  | ok a r => exact k a r h
  | err p e => exact h
theorem Pz.ite {α : Type} {c : Prop} [Decidable c] {a b : PR α} (h1 : c → Pz T a) (h2 : ¬ c → Pz T b) : Pz T (if c then a else b) := by
  by_cases h : c
  · rw [if_pos h]; exact h1 h
  · rw [if_neg h]; exact h2 h
theorem OkL.tail (E : Ends T) {l : List T4} (h : OkL T l) (hx : (hdT l).text ≠ [] ∨ (hdT l).kind ≠ 0) : OkL T l.tail := by
  refine ⟨(List.tail_suffix l).trans h.suf, fun e => ?_⟩
  cases l with
  | nil => exact h.ne rfl
  | cons x r =>
    have hr : r = [] := e
    subst hr
    obtain ⟨h1, h2⟩ := E.last x h.suf
    rcases hx with hx | hx
    · exact hx h2
    · exact hx h1
theorem OkL.isP (E : Ends T) {l : List T4} (h : OkL T l) {s : List UInt8} (hs : s ≠ []) (hp : Go.Proofs.YtkbplcfehllbjaaGreatDoor.isP s l = true) : OkL T l.tail :=
  h.tail E (.inl (by have : (hdT l).text = s := eq_of_beq hp; rw [this]; exact hs))
theorem Fz.want (E : Ends T) {s : List UInt8} (hs : s ≠ []) : Fz T (wantP s) := fun l h => by
  unfold wantP
  exact Pz.ite (fun hp => h.isP E hs hp) (fun _ => by show (2 : Int) ≠ 0; decide)
theorem Fz.kind (E : Ends T) {k : Int} (hk : k ≠ 0) : Fz T (kindP k) := fun l h => by
  unfold kindP
  exact Pz.ite (fun hp => h.tail E (.inr (by rw [hp]; exact hk))) (fun _ => by show (2 : Int) ≠ 0; decide)
theorem Fz.name (E : Ends T) : Fz T nameP := fun l h => by
  unfold nameP
  exact Pz.bind (Fz.kind E (by decide) l h) fun _ _ hr => hr
theorem typeKind_neG {s : List UInt8} {k : Int} (h : typeKind s = some k) : s ≠ [] := by
  intro e; subst e; cases h
theorem Fz.base (E : Ends T) : Fz T baseP := fun l h => by
  unfold baseP
  cases hk : typeKind (hdT l).text with
  | none => show (2 : Int) ≠ 0; decide
  | some k =>
    have ht := h.tail E (.inl (typeKind_neG hk))
    exact Pz.ite (fun _ => Pz.bind (Fz.name E _ ht) fun _ _ hr => hr) (fun _ => ht)
theorem OkL.stars (E : Ends T) : ∀ (l : List T4) (t : Ty), OkL T l → OkL T (starsP l t).2
  | [], _, h => h
  | a :: r, t, h => by
    unfold starsP
    split
    · rename_i ha
      exact OkL.stars E r t.ptr (h.tail E (.inl (by show a.text ≠ []; rw [ha]; simp)))
    · exact h
theorem Fz.sizes (E : Ends T) : Fz T sizesP := by
  have key : ∀ n, ∀ l : List T4, l.length ≤ n → OkL T l → Pz T (sizesP l) := by
    intro n
    induction n with
    | zero => intro l hl h; exact absurd (List.eq_nil_of_length_eq_zero (by omega : l.length = 0)) h.ne
    | succ n ih =>
      intro l hl h
      match l, hl, h with
      | [], _, h => exact absurd rfl h.ne
      | [a], _, h => exact h
      | a :: b :: r, hl, h =>
        unfold sizesP
        refine Pz.ite (fun ha => Pz.ite (fun _ => by show (5 : Int) ≠ 0; decide) fun _ => Pz.ite (fun hb => ?_) fun _ => by show (2 : Int) ≠ 0; decide) (fun _ => h)
        have h1 := h.tail E (.inl (by show a.text ≠ []; rw [ha]; simp))
        have h2 := h1.tail E (.inr (by show b.kind ≠ 0; rw [hb]; decide))
        match r, hl, h2 with
        | [], _, h2 => exact absurd rfl h2.ne
        | c :: r', hl, h2 =>
          dsimp only
          refine Pz.ite (fun hc => Pz.bind (ih r' (by simp at hl; omega) (h2.tail E (.inl (by show c.text ≠ []; rw [hc]; simp)))) fun _ _ hr => hr) (fun _ => by show (2 : Int) ≠ 0; decide)
  exact fun l h => key _ l (Nat.le_refl _) h
theorem Pz.loop {α β : Type} {step : α → List T4 → PR (α ⊕ β)} (hs : ∀ a, Fz T (step a)) (hd : Dec step) : ∀ (n : Nat) (a : α) (l : List T4), OkL T l → l.length < n → Pz T (loopP step n a l) := by
  intro n
  induction n with
  | zero => intro a l _ h; omega
  | succ n ih =>
    intro a l h hn
    unfold loopP
    have h1 := hs a l h
    cases hx : step a l with
    | err p e => rw [hx] at h1; exact h1
    | ok c r =>
      rw [hx] at h1
      cases c with
      | inl a' => exact ih a' r h1 (by have := hd a l a' r hx h.ne; omega)
      | inr b' => exact h1
theorem Pz.loopN {α β : Type} {step : α → List T4 → PR (α ⊕ β)} (hs : ∀ a, Fz T (step a)) (hd : Dec step) (a : α) {l : List T4} (h : OkL T l) : Pz T (loopP step (l.length + 1) a l) := Pz.loop hs hd _ a l h (by omega)
theorem Fz.list (E : Ends T) {α : Type} {one : List T4 → PR α} (hone : Shr one) (ho : Fz T one) : Fz T (listP one) := fun l h => by
  unfold listP
  refine Pz.bind (Fz.want E (by simp) l h) fun _ r hr => Pz.ite (fun hp => hr.isP E (by simp) hp) fun _ => Pz.loopN (fun a l h => ?_) (fun a l a' r e h => (Shr.listStep hone a l _ r e).2 h) [] hr
  unfold Go.Proofs.YtkbplcfehllbjaaGreatDoor.listStep
  refine Pz.bind (ho l h) fun _ r hr => Pz.ite (fun hp => Pz.ite (fun _ => by show (5 : Int) ≠ 0; decide) fun _ => hr.isP E (by simp) hp) fun _ => ?_
  exact Pz.bind (Fz.want E (by simp) r hr) fun _ _ hr => hr
structure RecZ (T : List T4) (R : Rec) : Prop where
  shr : RecShr R
  ex : Fz T R.expr
  un : Fz T R.unary
  st : Fz T R.stmt
  ty : Fz T R.typename
variable {R : Rec}
theorem RecZ.pointerTo (E : Ends T) (h : RecZ T R) (t : Ty) : Fz T (pointerToP R t) := fun l hl => by
  unfold pointerToP
  exact Pz.bind (Fz.list E h.shr.ty h.ty l hl) fun _ _ hr => hr
theorem RecZ.typename (E : Ends T) (h : RecZ T R) : Fz T (typenameF R) := fun l hl => by
  unfold typenameF
  refine Pz.bind (Fz.base E l hl) fun t r hr => ?_
  have hs := OkL.stars E r t hr
  exact Pz.ite (fun hp => Pz.bind (Fz.want E (by simp) _ (hs.isP E (by simp) hp)) fun _ r hr => Pz.bind (Fz.want E (by simp) r hr) fun _ r hr => h.pointerTo E _ r hr) fun _ => hs
theorem RecZ.declared (E : Ends T) (h : RecZ T R) (k : Int) (t : Ty) : Fz T (declaredP R k t) := fun l hl => by
  unfold declaredP
  refine Pz.ite (fun hp => ?_) fun _ => ?_
  · exact Pz.bind (Fz.want E (by simp) _ (hl.isP E (by simp) hp)) fun _ r hr => Pz.bind (Fz.name E r hr) fun _ r hr => Pz.bind (Fz.sizes E r hr) fun _ r hr => Pz.bind (Fz.want E (by simp) r hr) fun _ r hr => Pz.bind (h.pointerTo E _ r hr) fun _ _ hr => hr
  · exact Pz.bind (Fz.name E l hl) fun _ r hr => Pz.bind (Fz.sizes E r hr) fun _ _ hr => hr
theorem RecZ.decl (E : Ends T) (h : RecZ T R) : Fz T (declP R) := fun l hl => by
  unfold declP
  exact Pz.bind (Fz.base E l hl) fun t r hr => h.declared E 13 _ _ (OkL.stars E r t hr)
theorem RecZ.enclosed (E : Ends T) (h : RecZ T R) : Fz T (enclosedP R) := fun l hl => by
  unfold enclosedP
  exact Pz.bind (Fz.want E (by simp) l hl) fun _ r hr => Pz.bind (h.ty r hr) fun _ r hr => Pz.bind (Fz.want E (by simp) r hr) fun _ _ hr => hr
theorem RecZ.condition (E : Ends T) (h : RecZ T R) : Fz T (conditionP R) := fun l hl => by
  unfold conditionP
  exact Pz.bind (Fz.want E (by simp) l hl) fun _ r hr => Pz.bind (h.ex r hr) fun _ r hr => Pz.bind (Fz.want E (by simp) r hr) fun _ _ hr => hr
theorem RecZ.term (E : Ends T) (h : RecZ T R) : Fz T (termP R) := fun l hl => by
  unfold termP
  refine Pz.ite (fun hk => hl.tail E (.inr (by rw [hk]; decide))) fun _ => Pz.ite (fun hk => hl.tail E (.inr (by rw [hk]; decide))) fun _ => ?_
  exact Pz.bind (Fz.want E (by simp) l hl) fun _ r hr => Pz.bind (h.ex r hr) fun _ r hr => Pz.bind (Fz.want E (by simp) r hr) fun _ _ hr => hr
theorem RecZ.post (E : Ends T) (h : RecZ T R) : Fz T (postP R) := fun l hl => by
  unfold postP
  refine Pz.bind (h.term E l hl) fun n r hr => Pz.loopN (fun n l hl => ?_) (post_dec h.shr) n hr
  unfold postStep
  refine Pz.ite (fun hp => ?_) fun _ => Pz.ite (fun hp => ?_) fun _ => Pz.ite (fun hp => ?_) fun _ => Pz.ite (fun _ => ?_) fun _ => hl
  · exact Pz.bind (h.ex _ (hl.isP E (by simp) hp)) fun _ r hr => Pz.bind (Fz.want E (by simp) r hr) fun _ _ hr => hr
  · exact Pz.bind (Fz.name E _ (hl.isP E (by simp) hp)) fun _ _ hr => hr
  · exact Pz.bind (Fz.name E _ (hl.isP E (by simp) hp)) fun _ _ hr => hr
  · exact Pz.bind (Fz.list E h.shr.ex h.ex l hl) fun _ _ hr => hr
theorem RecZ.unary (E : Ends T) (h : RecZ T R) : Fz T (unaryF R) := fun l hl => by
  unfold unaryF
  refine Pz.ite (fun hu => ?_) fun _ => Pz.ite (fun hp => ?_) fun _ => Pz.ite (fun _ => ?_) fun _ => h.post E l hl
  · have hne : (hdT l).text ≠ [] := by intro e; rw [e] at hu; cases hu
    exact Pz.bind (h.un _ (hl.tail E (.inl hne))) fun _ _ hr => hr
  · exact Pz.bind (h.enclosed E _ (hl.isP E (by simp) hp)) fun _ _ hr => hr
  · exact Pz.bind (h.enclosed E l hl) fun _ r hr => Pz.bind (h.un r hr) fun _ _ hr => hr
theorem rowOf_leG (s : List UInt8) : rowOf s ≤ 8 := by unfold rowOf; split <;> (try split) <;> (try split) <;> (try split) <;> (try split) <;> (try split) <;> (try split) <;> (try split) <;> omega
theorem rowOf_pos {s : List UInt8} (h : 1 ≤ rowOf s) : s ≠ [] := by intro e; subst e; revert h; decide
theorem RecZ.bin (E : Ends T) (h : RecZ T R) : ∀ (f least : Nat), 1 ≤ least → 10 ≤ f + least → least ≤ 9 → Fz T (binP R f least) := by
  intro f
  induction f with
  | zero => intro least _ h2 h; omega
  | succ f ih =>
    intro least h1 h2 _ l hl
    unfold binP
    have hb : ∀ k, ShrLe (binP R f k) := fun k => (Shr.bin h.shr f k).le
    refine Pz.bind (h.un l hl) fun n r hr => Pz.loopN (fun n l hl => ?_) (bin_dec hb least) n hr
    unfold binStep
    refine Pz.ite (fun _ => hl) fun hn => ?_
    have h8 := rowOf_leG (hdT l).text
    exact Pz.bind (ih _ (by omega) (by omega) (by omega) _ (hl.tail E (.inl (rowOf_pos (by omega))))) fun _ _ hr => hr
theorem RecZ.expr (E : Ends T) (h : RecZ T R) : Fz T (exprF R) := fun l hl => by
  unfold exprF
  exact Pz.bind (h.bin E 9 1 (by omega) (by omega) (by omega) l hl) fun n r hr => Pz.ite (fun hp => Pz.bind (h.ex _ (hr.isP E (by simp) hp)) fun _ _ hr => hr) fun _ => hr
theorem RecZ.block (E : Ends T) (h : RecZ T R) : Fz T (blockP R) := fun l hl => by
  unfold blockP
  refine Pz.bind (Fz.want E (by simp) l hl) fun _ r hr => Pz.bind (Pz.loopN (fun n l hl => ?_) (block_dec h.shr) [] hr) fun _ _ hr => hr
  unfold blockStep
  exact Pz.ite (fun hp => hl.isP E (by simp) hp) fun _ => Pz.bind (h.st l hl) fun _ _ hr => hr
theorem RecZ.choice (E : Ends T) (h : RecZ T R) : Fz T (choiceP R) := fun l hl => by
  unfold choiceP
  exact Pz.bind (Fz.want E (by simp) l hl) fun _ r hr => Pz.bind (h.condition E r hr) fun _ r hr => Pz.bind (h.st r hr) fun _ r hr =>
    Pz.ite (fun hp => Pz.bind (h.st _ (hr.isP E (by simp) hp)) fun _ _ hr => hr) fun _ => hr
theorem RecZ.result (E : Ends T) (h : RecZ T R) : Fz T (resultP R) := fun l hl => by
  unfold resultP
  exact Pz.bind (Fz.want E (by simp) l hl) fun _ r hr => Pz.ite (fun hp => hr.isP E (by simp) hp) fun _ => Pz.bind (h.ex r hr) fun _ r hr => Pz.bind (Fz.want E (by simp) r hr) fun _ _ hr => hr
theorem Fz.leap (E : Ends T) {k : Int} {l : List T4} (hl : OkL T l.tail) : Pz T (leapP k l) := by
  unfold leapP
  exact Pz.bind (Fz.want E (by simp) _ hl) fun _ _ hr => hr
theorem RecZ.local' (E : Ends T) (h : RecZ T R) : Fz T (localP R) := fun l hl => by
  unfold localP
  exact Pz.bind (h.decl E l hl) fun n r hr => Pz.ite (fun hp => Pz.bind (h.ex _ (hr.isP E (by simp) hp)) fun _ r hr => Pz.bind (Fz.want E (by simp) r hr) fun _ _ hr => hr) fun _ => Pz.bind (Fz.want E (by simp) r hr) fun _ _ hr => hr
theorem RecZ.stmt (E : Ends T) (h : RecZ T R) : Fz T (stmtF R) := fun l hl => by
  unfold stmtF
  refine Pz.ite (fun _ => h.block E l hl) fun _ => Pz.ite (fun hp => hl.isP E (by simp) hp) fun _ => Pz.ite (fun _ => h.choice E l hl) fun _ =>
    Pz.ite (fun hp => ?_) fun _ => Pz.ite (fun _ => h.result E l hl) fun _ => Pz.ite (fun hp => Fz.leap E (hl.isP E (by simp) hp)) fun _ => Pz.ite (fun hp => Fz.leap E (hl.isP E (by simp) hp)) fun _ =>
    Pz.ite (fun _ => h.local' E l hl) fun _ => ?_
  · exact Pz.bind (h.condition E _ (hl.isP E (by simp) hp)) fun _ r hr => Pz.bind (h.st r hr) fun _ _ hr => hr
  · exact Pz.bind (h.ex l hl) fun _ r hr => Pz.bind (Fz.want E (by simp) r hr) fun _ _ hr => hr
theorem RecZ.at (E : Ends T) : ∀ f, RecZ T (recAt f)
  | 0 => ⟨RecShr.at 0, fun _ _ => by show (4 : Int) ≠ 0; decide, fun _ _ => by show (4 : Int) ≠ 0; decide, fun _ _ => by show (4 : Int) ≠ 0; decide, fun _ _ => by show (4 : Int) ≠ 0; decide⟩
  | f + 1 => have h := RecZ.at E f; ⟨RecShr.at _, h.expr E, h.unary E, h.stmt E, h.typename E⟩
theorem record_dec (h : RecShr R) : Dec (recordStep R) := fun n l a' r e hl => by
  unfold recordStep at e
  split at e
  · cases e
  · exact ((Shr.bind (q := fun m r => (wantP [59] r).bind fun _ r1 => .ok (Sum.inl (n ++ [m])) r1) (Shr.decl h) fun _ => ShrLe.bind (Shr.want _).le fun _ => ShrLe.pure _) l _ r e).2 hl
theorem RecZ.record (E : Ends T) (h : RecZ T R) (t : Ty) : Fz T (recordP R t) := fun l hl => by
  unfold recordP
  refine Pz.bind (Fz.want E (by simp) l hl) fun _ r hr => Pz.bind (Pz.loopN (fun n l hl => ?_) (record_dec h.shr) [] hr) fun _ r hr => Pz.bind (Fz.want E (by simp) r hr) fun _ _ hr => hr
  unfold recordStep
  exact Pz.ite (fun hp => hl.isP E (by simp) hp) fun _ => Pz.bind (h.decl E l hl) fun _ r hr => Pz.bind (Fz.want E (by simp) r hr) fun _ _ hr => hr
theorem RecZ.item (E : Ends T) (h : RecZ T R) {R1 : Rec} (h1 : RecZ T R1) : Fz T (itemP R R1) := fun l hl => by
  unfold itemP
  refine Pz.bind (Fz.base E l hl) fun t r hr => ?_
  have hs := OkL.stars E r t hr
  refine Pz.ite (fun _ => h.record E _ r hr) fun _ => Pz.ite (fun _ => ?_) fun _ => Pz.bind (h.declared E 21 _ _ hs) fun _ r hr => Pz.bind (Fz.want E (by simp) r hr) fun _ _ hr => hr
  unfold functionP
  exact Pz.bind (Fz.name E _ hs) fun _ r hr => Pz.bind (Fz.list E (Shr.decl h.shr) (h.decl E) r hr) fun _ r hr => Pz.bind (h1.block E r hr) fun _ _ hr => hr
theorem Shr.record' (h : RecShr R) (t : Ty) : Shr (recordP R t) := by
  unfold recordP
  refine Shr.bind (Shr.want _) fun _ => ShrLe.bind (ShrLe.loopN (fun n => ?_) []) fun _ => ShrLe.bind (Shr.want _).le fun _ => ShrLe.pure _
  unfold recordStep
  exact ShrLe.ite (Shr.pureT _).le (ShrLe.bind (Shr.decl h).le fun _ => ShrLe.bind (Shr.want _).le fun _ => ShrLe.pure _)
theorem Shr.function' (h : RecShr R) {R1 : Rec} (h1 : RecShr R1) (t : Ty) : Shr (functionP R R1 t) := by
  unfold functionP
  exact Shr.bind Shr.name fun _ => ShrLe.bind (Shr.list (Shr.decl h).le).le fun _ => ShrLe.bind (Shr.block h1).le fun _ => ShrLe.pure _
theorem Shr.item' (h : RecShr R) {R1 : Rec} (h1 : RecShr R1) : Shr (itemP R R1) := by
  unfold itemP
  refine Shr.bind Shr.base fun t ts a r e => ?_
  have hl := stars_le ts t
  split at e
  · exact (Shr.record' h t).le ts a r e
  · dsimp only at e
    split at e
    · have := (Shr.function' h h1 _).le _ a r e; omega
    · have := ShrLe.bind (q := fun n r1 => (wantP [59] r1).bind fun _ r2 => .ok n r2) (Shr.declared h 21 _).le (fun _ => ShrLe.bind (Shr.want _).le fun _ => ShrLe.pure _) _ a r e
      omega
theorem unit_dec (h : RecShr R) {R1 : Rec} (h1 : RecShr R1) : Dec (unitStep R R1) := fun n l a' r e hl => by
  unfold unitStep at e
  split at e
  · cases e
  · exact ((Shr.bind (q := fun m r => .ok (Sum.inl (n ++ [m])) r) (Shr.item' h h1) fun _ => ShrLe.pure _) l _ r e).2 hl
theorem unit_z (E : Ends T) : Fz T unitP := fun l hl => by
  unfold unitP
  refine Pz.bind (Pz.loopN (fun n l hl => ?_) (unit_dec (RecShr.at 60) (RecShr.at 59)) [] hl) fun _ _ hr => hr
  unfold unitStep
  exact Pz.ite (fun _ => hl) fun _ => Pz.bind ((RecZ.at E 60).item E (RecZ.at E 59) l hl) fun _ _ hr => hr
end
theorem ends_app (l : List T4) {x : T4} (hk : x.kind = 0) (ht : x.text = []) : Ends (l ++ [x]) := ⟨fun y h => by
  obtain ⟨p, hp⟩ := h
  obtain ⟨_, h2⟩ := List.append_inj' hp rfl
  cases h2
  exact ⟨hk, ht⟩⟩
theorem unitP_nz {l : List T4} {x : T4} (hk : x.kind = 0) (ht : x.text = []) {p : Nat} {e : Int} (h : unitP (l ++ [x]) = .err p e) : e ≠ 0 := by
  have := unit_z (ends_app l hk ht) (l ++ [x]) ⟨List.suffix_refl _, by simp⟩
  rw [h] at this
  exact this
end Go.Proofs.YtkbplcfehllbjaaGreatDoor
/- Plain: two sources one behind the other. -/
namespace Go.Proofs.YtkbplcfehllbjaaGreatDoor
def Simu {α : Type} (p : List T4 → PR α) : Prop := ∀ u u', Neut u u' → Sim u u' False p p
/-- What is read ends with a token that is not the source's end; what stands behind that one turns nothing. -/
def SimF {α : Type} (p : List T4 → PR α) : Prop := ∀ ts a r, r ≠ [] → p ts = .ok a r → ∃ kc t, t.text ≠ [] ∧ ts = kc ++ t :: r ∧ ∀ m, m ≠ [] → p (kc ++ t :: m) = .ok a m
theorem ne_len {l : List T4} (h : 1 ≤ l.length) : l ≠ [] := fun e => by rw [e] at h; simp at h
theorem neut_hd {x : T4} {y y' : List T4} (h : y ≠ []) (h' : y' ≠ []) : Neut (x :: y) (x :: y') :=
  ⟨by have := List.length_pos_iff.2 h; simp; omega, by have := List.length_pos_iff.2 h'; simp; omega, rfl, fun _ _ _ => rfl, rfl⟩
theorem neut_kc (kc : List T4) (t : T4) {r m : List T4} (h : r ≠ []) (h' : m ≠ []) : Neut (kc ++ t :: r) (kc ++ t :: m) := by
  cases kc with
  | nil => exact neut_hd h h'
  | cons x kc => exact neut_hd (by simp) (by simp)
theorem isP_kc (kc : List T4) (t : T4) (r m : List T4) (s : List UInt8) : isP s (kc ++ t :: r) = isP s (kc ++ t :: m) := by cases kc <;> rfl
theorem hdT_kc (kc : List T4) (t : T4) (r m : List T4) : hdT (kc ++ t :: r) = hdT (kc ++ t :: m) := by cases kc <;> rfl
theorem hdT_k0 {k0 : List T4} (h : k0 ≠ []) (r m : List T4) : hdT (k0 ++ r) = hdT (k0 ++ m) := by cases k0 with
  | nil => exact absurd rfl h
  | cons => rfl
theorem Simu.go {α : Type} {p : List T4 → PR α} (hp : Simu p) (hs : Suf p) {ts kc r : List T4} {t : T4} {a : α} (e : p ts = .ok a (kc ++ t :: r)) (hr : r ≠ []) :
    ∃ k0, ts = k0 ++ (kc ++ t :: r) ∧ ∀ m, m ≠ [] → p (k0 ++ (kc ++ t :: m)) = .ok a (kc ++ t :: m) := by
  obtain ⟨k0, rfl⟩ := hs ts a _ e
  refine ⟨k0, rfl, fun m hm => ?_⟩
  rcases hp _ _ (neut_kc kc t hr hm) false _ _ (Qm.k k0) a _ e with h | ⟨_, k, hk, h | ⟨h, _⟩⟩
  · omega
  · have : k = [] := by
      have := congrArg List.length hk
      exact List.eq_nil_of_length_eq_zero (by simp only [List.length_append, List.length_cons] at this; omega)
    subst this
    exact h
  · exact h.elim
theorem SimF.want {s : List UInt8} (hs : s ≠ []) : SimF (wantP s) := fun ts a r _ e => by
  unfold wantP at e
  by_cases h : isP s ts = true
  · rw [if_pos h] at e
    cases ts with
    | nil => exact absurd (show ([] : List UInt8) = s from eq_of_beq h).symm hs
    | cons t ts =>
      cases e
      exact ⟨[], t, by rw [show t.text = s from eq_of_beq h]; exact hs, rfl, fun m _ => by
        show wantP s (t :: m) = _
        unfold wantP
        rw [if_pos (show isP s (t :: m) = true from h)]; rfl⟩
  · rw [if_neg h] at e; cases e
theorem SimF.bind {α β : Type} {p : List T4 → PR α} {f : α → List T4 → PR β} (hp : Simu p) (hs : Suf p) (hf : ∀ a, SimF (f a)) : SimF (fun ts => (p ts).bind f) := fun ts b r hr e => by
  cases hx : p ts with
  | err q x => simp [hx] at e
  | ok a r1 =>
    simp only [hx, PR.bind_ok] at e
    obtain ⟨kc, t, ht, rfl, hm⟩ := hf a r1 b r hr e
    obtain ⟨k0, rfl, hg⟩ := hp.go hs hx hr
    refine ⟨k0 ++ kc, t, ht, by simp, fun m hmn => ?_⟩
    have h1 := hg m hmn
    rw [List.append_assoc]
    dsimp only
    rw [h1]
    exact hm m hmn
theorem SimF.map {α β : Type} {p : List T4 → PR α} (hp : SimF p) (g : α → β) : SimF (fun ts => (p ts).bind fun a r => .ok (g a) r) := fun ts b r hr e => by
  cases hx : p ts with
  | err q x => simp [hx] at e
  | ok a r1 =>
    simp [hx] at e
    obtain ⟨rfl, rfl⟩ := e
    obtain ⟨kc, t, ht, h1, h2⟩ := hp ts a r1 hr hx
    exact ⟨kc, t, ht, h1, fun m hm => by dsimp only; rw [h2 m hm]; rfl⟩
theorem PR.bind_ok' {α β : Type} {x : PR α} {f : α → List T4 → PR β} {b : β} {r : List T4} (h : x.bind f = .ok b r) : ∃ a r1, x = .ok a r1 ∧ f a r1 = .ok b r := by
  cases x with
  | ok a r1 => exact ⟨a, r1, rfl, h⟩
  | err p e => cases h
theorem sufA {α : Type} {p : List T4 → PR α} (h : ∀ L, RecAlk (fun _ _ => True) (fun l l' => l = l' ∧ (l <:+ L)) (recAt 60) → RecAlk (fun _ _ => True) (fun l l' => l = l' ∧ (l <:+ L)) (recAt 59) → Alk (fun _ _ => True) (fun l l' => l = l' ∧ (l <:+ L)) p) : Suf p :=
  Suf.of fun L => h L (RecAlk.at (alike_suf L) 60) (RecAlk.at (alike_suf L) 59)
theorem block_loop : ∀ (n : Nat) (acc : List Nd) (ts : List T4) (b : List Nd) (r : List T4), r ≠ [] → loopP (blockStep (recAt 59)) n acc ts = .ok b r →
    ∃ kc t, t.text ≠ [] ∧ ts = kc ++ t :: r ∧ ∀ m, m ≠ [] → ∀ n', kc.length < n' → loopP (blockStep (recAt 59)) n' acc (kc ++ t :: m) = .ok b m := by
  intro n
  induction n with
  | zero => intro acc ts b r _ e; cases e
  | succ n ih =>
    intro acc ts b r hr e
    unfold loopP blockStep at e
    by_cases h : isP [125] ts = true
    · rw [if_pos h] at e
      cases ts with
      | nil => cases h
      | cons t ts =>
        cases e
        refine ⟨[], t, by rw [show t.text = [125] from eq_of_beq h]; simp, rfl, fun m _ n' hn => ?_⟩
        obtain ⟨n', rfl⟩ : ∃ k, n' = k + 1 := ⟨n' - 1, by simp at hn; omega⟩
        show loopP _ (n' + 1) acc (t :: m) = _
        unfold loopP blockStep
        rw [if_pos (show isP [125] (t :: m) = true from h)]
        rfl
    · rw [if_neg h] at e
      cases hx : (recAt 59).stmt ts with
      | err p q => rw [hx] at e; cases e
      | ok a r1 =>
        rw [hx] at e
        obtain ⟨kc, t, ht, rfl, hm⟩ := ih (acc ++ [a]) r1 b r hr e
        have hSt : Simu (recAt 59).stmt := fun _ _ N => (RecSim.same N 59).st
        obtain ⟨k0, rfl, hg⟩ := hSt.go (RecSuf.at 59).st hx hr
        have hk0 : k0 ≠ [] := by
          intro e0
          subst e0
          have := ((RecShr.at 59).st _ _ _ hx).2 (by simp)
          simp at this
        refine ⟨k0 ++ kc, t, ht, by simp, fun m hmn n' hn => ?_⟩
        obtain ⟨n', rfl⟩ : ∃ k, n' = k + 1 := ⟨n' - 1, by have := List.length_pos_iff.2 hk0; omega⟩
        rw [List.append_assoc]
        unfold loopP blockStep
        have hh : isP [125] (k0 ++ (kc ++ t :: m)) = isP [125] (k0 ++ (kc ++ t :: r)) := by unfold isP; rw [hdT_k0 hk0 (kc ++ t :: m) (kc ++ t :: r)]
        rw [if_neg (by rw [hh]; exact h), hg m hmn]
        exact hm m hmn n' (by have := List.length_pos_iff.2 hk0; simp at hn; omega)
theorem SimF.block : SimF (blockP (recAt 59)) := by
  unfold blockP
  refine SimF.bind (fun _ _ N => Sim.want N _) (sufA fun L h h1 l l' hl => (alike_suf L).want hl _) fun _ => SimF.map (p := fun r => loopP (blockStep (recAt 59)) (r.length + 1) [] r) (fun ts b r hr e => ?_) (Nd.of 17)
  obtain ⟨kc, t, ht, h1, h2⟩ := block_loop _ _ _ _ _ hr e
  exact ⟨kc, t, ht, h1, fun m hm => h2 m hm _ (by simp; omega)⟩
theorem simu_list : Simu (listP (declP (recAt 60))) := fun _ _ N => Sim.list N (Shr.decl (RecShr.at 60)) ((RecSim.same N 60).decl N)
theorem suf_list : Suf (listP (declP (recAt 60))) := sufA fun L h _ => (alike_suf L).list (h.decl (alike_suf L))
theorem suf_name : Suf nameP := sufA fun L _ _ _ _ hl => (alike_suf L).name hl
theorem suf_base : Suf baseP := sufA fun L _ _ _ _ hl => (alike_suf L).base hl
theorem suf_want (s : List UInt8) : Suf (wantP s) := sufA fun L _ _ _ _ hl => (alike_suf L).want hl s
theorem SimF.function (t : Ty) : SimF (functionP (recAt 60) (recAt 59) t) := by
  unfold functionP
  exact SimF.bind (fun _ _ N => Sim.name N) suf_name fun nm => SimF.bind simu_list suf_list fun ps => SimF.map SimF.block (fun b => Nd.mk 22 nm 0 (Ty.fn (t :: ps.map Nd.typ)) (ps ++ [b]))
theorem simu_record : Simu (fun r => loopP (recordStep (recAt 60)) (r.length + 1) [] r) := fun _ _ N => by
  have hs := RecShr.at 60
  have hle : ∀ n, ShrLe (recordStep (recAt 60) n) := fun n => by
    unfold recordStep
    exact ShrLe.ite (Shr.pureT _).le (ShrLe.bind (Shr.decl hs).le fun _ => ShrLe.bind (Shr.want _).le fun _ => ShrLe.pure _)
  refine Sim.loopN N hle (record_dec hs) (fun n => Sim.of_shr N ?_ fun x k => ?_) []
  · unfold recordStep
    exact Shr.ite (Shr.pureT _) (Shr.bind (Shr.decl hs) fun _ => ShrLe.bind (Shr.want _).le fun _ => ShrLe.pure _)
  · unfold recordStep
    exact PRm.ite (fun _ => Iff.rfl) (fun _ => .pure (Qm.k k) rfl) fun _ => PRm.bind ((RecSim.same N 60).decl N false _ _ (Qm.k (x :: k))) fun _ _ r r' hr => PRm.bind (Sim.want N _ _ _ _ hr) fun _ _ r r' hr => .pure hr rfl
theorem suf_record : Suf (fun r => loopP (recordStep (recAt 60)) (r.length + 1) [] r) := sufA fun L h _ l l' hl => by
  refine (alike_suf L).loopN (fun k l l' hl => ?_) [] hl
  unfold recordStep
  exact PRr.ite (by rw [(alike_suf L).isP hl]) (fun _ => .pure ((alike_suf L).tl hl) rfl) fun _ => PRr.bind (h.decl (alike_suf L) l l' hl) fun _ r r' hr => PRr.bind ((alike_suf L).want hr _) fun _ r r' hr => .pure hr rfl
theorem SimF.record (t : Ty) : SimF (recordP (recAt 60) t) := by
  unfold recordP
  exact SimF.bind (fun _ _ N => Sim.want N _) (suf_want _) fun _ => SimF.bind simu_record suf_record fun l => SimF.map (SimF.want (by simp)) (fun _ => Nd.mk 20 [] 0 t l)
theorem SimF.global (t : Ty) : SimF (fun ts => (declaredP (recAt 60) 21 t ts).bind fun n r1 => (wantP [59] r1).bind fun _ r2 => .ok n r2) :=
  SimF.bind (fun _ _ N => (RecSim.same N 60).declared N 21 t) (sufA fun L h _ => h.declared (alike_suf L) 21 t) fun n => SimF.map (SimF.want (by simp)) (fun _ => n)
theorem stars_kc : ∀ (ts : List T4) (t t1 : Ty) (kc r : List T4) (x : T4), starsP ts t = (t1, kc ++ x :: r) → ∃ k0, ts = k0 ++ (kc ++ x :: r) ∧ ∀ m, starsP (k0 ++ (kc ++ x :: m)) t = (t1, kc ++ x :: m)
  | [], t, t1, kc, r, x, h => by cases kc <;> simp [starsP] at h
  | a :: ts, t, t1, kc, r, x, h => by
    unfold starsP at h
    split at h
    · rename_i ha
      obtain ⟨k0, e1, e2⟩ := stars_kc ts t.ptr t1 kc r x h
      refine ⟨a :: k0, by rw [e1]; rfl, fun m => ?_⟩
      show starsP (a :: (k0 ++ (kc ++ x :: m))) t = _
      unfold starsP
      rw [if_pos ha]; exact e2 m
    · rename_i ha
      simp only [Prod.mk.injEq] at h
      obtain ⟨rfl, h⟩ := h
      refine ⟨[], h, fun m => ?_⟩
      show starsP (kc ++ x :: m) t = _
      apply stars_end
      have : isP [42] (a :: ts) = isP [42] (kc ++ x :: m) := by rw [h]; exact isP_kc kc x r m _
      rw [← this]
      unfold isP
      exact beq_eq_false_iff_ne.2 ha
theorem SimF.item : SimF (itemP (recAt 60) (recAt 59)) := by
  unfold itemP
  refine SimF.bind (fun _ _ N => Sim.base N) suf_base fun t => fun ts a r hr e => ?_
  dsimp only at e
  by_cases h1 : t.name ≠ [] ∧ isP [123] ts = true
  · rw [if_pos h1] at e
    obtain ⟨kc, x, hx, rfl, hm⟩ := SimF.record t ts a r hr e
    refine ⟨kc, x, hx, rfl, fun m hmn => ?_⟩
    dsimp only
    rw [if_pos (by rw [isP_kc kc x m r]; exact h1)]
    exact hm m hmn
  · rw [if_neg h1] at e
    have hfin : ∀ (F : Ty → List T4 → PR Nd) (c : List T4 → Bool), SimF (F (starsP ts t).1) → F (starsP ts t).1 (starsP ts t).2 = .ok a r → r.length + 2 ≤ (starsP ts t).2.length →
        ∃ k0 kc x, x.text ≠ [] ∧ ts = k0 ++ (kc ++ x :: r) ∧ kc ≠ [] ∧ (starsP ts t).2 = kc ++ x :: r ∧ ∀ m, m ≠ [] → starsP (k0 ++ (kc ++ x :: m)) t = ((starsP ts t).1, kc ++ x :: m) ∧ F (starsP ts t).1 (kc ++ x :: m) = .ok a m := by
      intro F _ hF e hl
      obtain ⟨kc, x, hx, h2, hm⟩ := hF _ a r hr e
      obtain ⟨k0, e1, e2⟩ := stars_kc ts t (starsP ts t).1 kc r x (by rw [← h2])
      refine ⟨k0, kc, x, hx, e1, fun e0 => ?_, h2, fun m hmn => ⟨e2 m, hm m hmn⟩⟩
      subst e0
      rw [h2] at hl
      simp at hl
    have hcond : ∀ (k0 kc : List T4) (x : T4) (m : List T4), ts = k0 ++ (kc ++ x :: r) → ¬ (t.name ≠ [] ∧ isP [123] (k0 ++ (kc ++ x :: m)) = true) := by
      intro k0 kc x m e1
      have : isP [123] (k0 ++ (kc ++ x :: m)) = isP [123] ts := by rw [e1, ← List.append_assoc, ← List.append_assoc]; exact isP_kc _ x m r _
      rw [this]; exact h1
    have hrl : 1 ≤ r.length := List.length_pos_iff.2 hr
    by_cases h2 : (hdT (starsP ts t).2).kind = 1 ∧ isP [40] (starsP ts t).2.tail = true
    · rw [if_pos h2] at e
      have hlen : r.length + 2 ≤ (starsP ts t).2.length := by
        unfold functionP at e
        obtain ⟨_, r1, h3, e⟩ := PR.bind_ok' e
        obtain ⟨_, r2, h4, e⟩ := PR.bind_ok' e
        obtain ⟨_, r3, h5, e⟩ := PR.bind_ok' e
        cases e
        have g1 := Shr.name _ _ _ h3
        have g2 := Shr.list (Shr.decl (RecShr.at 60)).le _ _ _ h4
        have g3 := Shr.block (RecShr.at 59) _ _ _ h5
        have g4 := g3.2 (ne_len (by omega))
        have g5 := g2.2 (ne_len (by omega))
        omega
      obtain ⟨k0, kc, x, hx, e1, hkc, e2, hm⟩ := hfin (functionP (recAt 60) (recAt 59)) (fun _ => true) (SimF.function _) e hlen
      refine ⟨k0 ++ kc, x, hx, by rw [e1, List.append_assoc], fun m hmn => ?_⟩
      obtain ⟨m1, m2⟩ := hm m hmn
      rw [List.append_assoc]
      dsimp only
      rw [if_neg (hcond k0 kc x m e1), m1, if_pos ?_]
      · exact m2
      · rw [e2] at h2
        cases kc with
        | nil => exact absurd rfl hkc
        | cons y kc => exact ⟨h2.1, by rw [← h2.2]; exact isP_kc kc x m r _⟩
    · rw [if_neg h2] at e
      have hlen : r.length + 2 ≤ (starsP ts t).2.length := by
        obtain ⟨_, r1, h3, e⟩ := PR.bind_ok' e
        obtain ⟨_, r2, h4, e⟩ := PR.bind_ok' e
        cases e
        have g1 := Shr.declared (RecShr.at 60) 21 _ _ _ _ h3
        have g2 := Shr.want _ _ _ _ h4
        have g3 := g2.2 (ne_len (by omega))
        have g4 := g1.2 (ne_len (by omega))
        omega
      obtain ⟨k0, kc, x, hx, e1, hkc, e2, hm⟩ := hfin (fun t ts => (declaredP (recAt 60) 21 t ts).bind fun n r1 => (wantP [59] r1).bind fun _ r2 => .ok n r2) (fun _ => true) (SimF.global _) e hlen
      refine ⟨k0 ++ kc, x, hx, by rw [e1, List.append_assoc], fun m hmn => ?_⟩
      obtain ⟨m1, m2⟩ := hm m hmn
      rw [List.append_assoc]
      dsimp only
      rw [if_neg (hcond k0 kc x m e1), m1, if_neg ?_]
      · exact m2
      · rw [e2] at h2
        cases kc with
        | nil => exact absurd rfl hkc
        | cons y kc =>
          intro hc
          exact h2 ⟨hc.1, by rw [← hc.2]; exact isP_kc kc x r m _⟩
abbrev uStep := unitStep (recAt 60) (recAt 59)
theorem unit_join {e1 : T4} (hk1 : e1.kind = 0) (ht1 : e1.text = []) : ∀ (n : Nat) (acc : List Nd) (k : List T4) (L : List Nd) (r : List T4), (∀ t ∈ k, t.kind ≠ 0) → loopP uStep n acc (k ++ [e1]) = .ok L r →
    r = [e1] ∧ ∃ j, j ≤ k.length ∧ ∀ m, m ≠ [] → ∀ n', loopP uStep (n' + j) acc (k ++ m) = loopP uStep n' L m := by
  intro n
  induction n with
  | zero => intro acc k L r _ e; cases e
  | succ n ih =>
    intro acc k L r hk e
    unfold loopP uStep unitStep at e
    cases k with
    | nil =>
      rw [if_pos (show (hdT ([] ++ [e1])).kind = 0 from hk1)] at e
      cases e
      exact ⟨rfl, 0, Nat.le_refl _, fun m _ n' => rfl⟩
    | cons x k =>
      have hx : x.kind ≠ 0 := hk x (List.mem_cons_self ..)
      rw [if_neg (show ¬ (hdT (x :: k ++ [e1])).kind = 0 from hx)] at e
      cases hi : itemP (recAt 60) (recAt 59) (x :: k ++ [e1]) with
      | err p q => rw [hi] at e; cases e
      | ok a r1 =>
        rw [hi] at e
        have hz := ((RecZ.at (ends_app (x :: k) hk1 ht1) 60).item (ends_app (x :: k) hk1 ht1) (RecZ.at (ends_app (x :: k) hk1 ht1) 59)) _ ⟨List.suffix_refl _, by simp⟩
        rw [hi] at hz
        have hr1 : r1 ≠ [] := hz.ne
        obtain ⟨kc, t, ht, hsp, hm⟩ := SimF.item _ a r1 hr1 hi
        obtain ⟨k2, y, rfl⟩ : ∃ k2 y, r1 = k2 ++ [y] := ⟨r1.dropLast, r1.getLast hr1, (List.dropLast_concat_getLast hr1).symm⟩
        have hsp2 : (x :: k) ++ [e1] = (kc ++ t :: k2) ++ [y] := by rw [hsp]; simp
        obtain ⟨hsp3, hy⟩ := List.append_inj' hsp2 rfl
        cases hy
        obtain ⟨h1, j, hj, h2⟩ := ih (acc ++ [a]) k2 L r (fun t' ht' => hk t' (by rw [hsp3]; simp [ht'])) e
        refine ⟨h1, j + 1, by rw [hsp3]; simp; omega, fun m hmn n' => ?_⟩
        have hi2 : itemP (recAt 60) (recAt 59) (x :: k ++ m) = .ok a (k2 ++ m) := by
          rw [hsp3, List.append_assoc]
          exact hm (k2 ++ m) (by simp [hmn])
        rw [← Nat.add_assoc, ← h2 m hmn n']
        conv => lhs; unfold loopP uStep unitStep
        rw [if_neg (show ¬ (hdT (x :: k ++ m)).kind = 0 from hx), hi2]
        rfl
theorem unit_acc : ∀ (n : Nat) (acc0 acc : List Nd) (ts : List T4) (L : List Nd) (r : List T4), loopP uStep n acc ts = .ok L r → ∀ d, loopP uStep (n + d) (acc0 ++ acc) ts = .ok (acc0 ++ L) r := by
  intro n
  induction n with
  | zero => intro acc0 acc ts L r e; cases e
  | succ n ih =>
    intro acc0 acc ts L r e d
    unfold loopP uStep unitStep at e
    rw [show n + 1 + d = (n + d) + 1 by omega]
    unfold loopP uStep unitStep
    by_cases h : (hdT ts).kind = 0
    · rw [if_pos h] at e ⊢
      cases e; rfl
    · rw [if_neg h] at e ⊢
      cases hi : itemP (recAt 60) (recAt 59) ts with
      | err p q => rw [hi] at e; cases e
      | ok a r1 =>
        rw [hi] at e
        have := ih acc0 (acc ++ [a]) r1 L r e d
        rw [← List.append_assoc] at this
        exact this
theorem unitP_join {k1 k2 : List T4} {e1 e2 : T4} {n1 n2 : Nd} {r1 r2 : List T4} (hk1 : e1.kind = 0) (ht1 : e1.text = []) (hk : ∀ t ∈ k1, t.kind ≠ 0) (h1 : unitP (k1 ++ [e1]) = .ok n1 r1) (h2 : unitP (k2 ++ [e2]) = .ok n2 r2) :
    unitP (k1 ++ (k2 ++ [e2])) = .ok (Nd.of 23 (n1.kids ++ n2.kids)) r2 := by
  unfold unitP at h1 h2 ⊢
  obtain ⟨L1, r1', h1, e⟩ := PR.bind_ok' h1
  cases e
  obtain ⟨L2, r2', h2, e⟩ := PR.bind_ok' h2
  cases e
  obtain ⟨_, j, hj, hm⟩ := unit_join hk1 ht1 _ _ _ _ _ hk h1
  have hlen : (k1 ++ (k2 ++ [e2])).length + 1 = ((k2 ++ [e2]).length + 1 + (k1.length - j)) + j := by simp; omega
  rw [hlen, hm _ (by simp)]
  have := unit_acc _ L1 [] _ _ _ h2 (k1.length - j)
  rw [List.append_nil] at this
  rw [this]
  rfl
end Go.Proofs.YtkbplcfehllbjaaGreatDoor
/- Plain: an expression in brackets. -/
namespace Go.Proofs.YtkbplcfehllbjaaGreatDoor
def tW (t : List UInt8) (p : Nat) : T4 := ⟨2, p, t, 0⟩
def tS (t : List UInt8) (p : Nat) : T4 := ⟨4, p, t, 0⟩
def preT : List T4 := [tW [118, 111, 105, 100] 0, ⟨1, 5, [102], 0⟩, tS [40] 6, tS [41] 7, tS [123] 9]
def fnN (L : List Nd) : Nd := .mk 22 [102] 0 (Ty.fn [.mk 1 0 [] []]) [Nd.of 17 L]
theorem item_fn (Y : List T4) : itemP (recAt 60) (recAt 59) (preT ++ Y) = (loopP (blockStep (recAt 59)) (Y.length + 1) [] Y).bind fun L r => .ok (fnN L) r := by
  have h1 : itemP (recAt 60) (recAt 59) (preT ++ Y) = (blockP (recAt 59) (tS [123] 9 :: Y)).bind fun b r => .ok (.mk 22 [102] 0 (Ty.fn [.mk 1 0 [] []]) [b]) r := rfl
  rw [h1]
  have h2 : blockP (recAt 59) (tS [123] 9 :: Y) = (loopP (blockStep (recAt 59)) (Y.length + 1) [] Y).bind fun l r2 => .ok (Nd.of 17 l) r2 := rfl
  rw [h2]
  cases loopP (blockStep (recAt 59)) (Y.length + 1) [] Y <;> rfl
theorem loop_succ {α β : Type} (step : α → List T4 → PR (α ⊕ β)) (n : Nat) (a : α) (ts : List T4) : loopP step (n + 1) a ts = match step a ts with
    | .err p e => .err p e
    | .ok (.inr b) r => .ok b r
    | .ok (.inl a') r => loopP step n a' r := rfl
theorem uS (R R1 : Rec) (l : List Nd) (ts : List T4) : unitStep R R1 l ts = if (hdT ts).kind = 0 then .ok (.inr l) ts else (itemP R R1 ts).bind fun n r => .ok (.inl (l ++ [n])) r := rfl
theorem bS (R : Rec) (l : List Nd) (ts : List T4) : blockStep R l ts = if isP [125] ts = true then .ok (.inr l) ts.tail else (R.stmt ts).bind fun n r => .ok (.inl (l ++ [n])) r := rfl
theorem pre_kind (Y : List T4) : ¬ (hdT (preT ++ Y)).kind = 0 := by show ¬ (2 : Int) = 0; decide
theorem setKids_kind (n : Nd) (l : List Nd) : (setKids n l).kind = n.kind := by cases n; rfl
theorem decl_kind {R : Rec} {ts : List T4} {n : Nd} {r : List T4} (h : declP R ts = .ok n r) : n.kind = 13 := by
  unfold declP at h
  obtain ⟨t, r1, _, h⟩ := PR.bind_ok' h
  unfold declaredP at h
  split at h
  · obtain ⟨_, _, _, h⟩ := PR.bind_ok' h
    obtain ⟨_, _, _, h⟩ := PR.bind_ok' h
    obtain ⟨_, _, _, h⟩ := PR.bind_ok' h
    obtain ⟨_, _, _, h⟩ := PR.bind_ok' h
    obtain ⟨_, _, _, h⟩ := PR.bind_ok' h
    cases h; rfl
  · obtain ⟨_, _, _, h⟩ := PR.bind_ok' h
    obtain ⟨_, _, _, h⟩ := PR.bind_ok' h
    cases h; rfl
theorem stmt_expr {R : Rec} {ts : List T4} {n : Nd} {r : List T4} (h : stmtF R ts = .ok n r) (hk : n.kind = 12) : ∃ x r1, R.expr ts = .ok x r1 ∧ wantP [59] r1 = .ok () r ∧ n = Nd.of 12 [x] := by
  unfold stmtF at h
  split at h
  · unfold blockP at h
    obtain ⟨_, _, _, h⟩ := PR.bind_ok' h
    obtain ⟨_, _, _, h⟩ := PR.bind_ok' h
    cases h; cases hk
  · split at h
    · cases h; cases hk
    · split at h
      · unfold choiceP at h
        obtain ⟨_, _, _, h⟩ := PR.bind_ok' h
        obtain ⟨_, _, _, h⟩ := PR.bind_ok' h
        obtain ⟨_, _, _, h⟩ := PR.bind_ok' h
        split at h
        · obtain ⟨_, _, _, h⟩ := PR.bind_ok' h
          cases h; cases hk
        · cases h; cases hk
      · split at h
        · obtain ⟨_, _, _, h⟩ := PR.bind_ok' h
          obtain ⟨_, _, _, h⟩ := PR.bind_ok' h
          cases h; cases hk
        · split at h
          · unfold resultP at h
            obtain ⟨_, _, _, h⟩ := PR.bind_ok' h
            split at h
            · cases h; cases hk
            · obtain ⟨_, _, _, h⟩ := PR.bind_ok' h
              obtain ⟨_, _, _, h⟩ := PR.bind_ok' h
              cases h; cases hk
          · split at h
            · unfold leapP at h
              obtain ⟨_, _, _, h⟩ := PR.bind_ok' h
              cases h; cases hk
            · split at h
              · unfold leapP at h
                obtain ⟨_, _, _, h⟩ := PR.bind_ok' h
                cases h; cases hk
              · split at h
                · unfold localP at h
                  obtain ⟨m, r1, hm, h⟩ := PR.bind_ok' h
                  have hm := decl_kind hm
                  split at h
                  · obtain ⟨_, _, _, h⟩ := PR.bind_ok' h
                    obtain ⟨_, _, _, h⟩ := PR.bind_ok' h
                    cases h
                    rw [setKids_kind, hm] at hk; cases hk
                  · obtain ⟨_, _, _, h⟩ := PR.bind_ok' h
                    cases h
                    rw [hm] at hk; cases hk
                · obtain ⟨x, r1, hx, h⟩ := PR.bind_ok' h
                  obtain ⟨⟨⟩, r2, hw, h⟩ := PR.bind_ok' h
                  cases h
                  exact ⟨x, r1, hx, hw, rfl⟩
theorem want_cons {s : List UInt8} (hs : s ≠ []) {ts r : List T4} {a : Unit} (h : wantP s ts = .ok a r) : ∃ t, ts = t :: r ∧ t.text = s := by
  unfold wantP at h
  by_cases hp : isP s ts = true
  · rw [if_pos hp] at h
    cases ts with
    | nil => exact absurd (show ([] : List UInt8) = s from eq_of_beq hp).symm hs
    | cons t ts => cases h; exact ⟨t, rfl, eq_of_beq hp⟩
  · rw [if_neg hp] at h; cases h
/-- What is known of the brackets' source, from the source without them. -/
theorem bare {ts : List T4} {p1 p2 p3 : Nat} {a : Nd} {rA : List T4} {fn b st : Nd} (hts : ∀ t ∈ ts, t.kind ≠ 0)
    (hu : unitP (preT ++ (ts ++ [tS [59] p1, tS [125] p2, ⟨0, p3, [], 0⟩])) = .ok a rA) (ha : a.kids = [fn]) (hf : fn.kids = [b]) (hb : b.kids = [st]) (hk : st.kind = 12) :
    ∃ x, (recAt 58).expr (ts ++ [tS [59] p1, tS [125] p2, ⟨0, p3, [], 0⟩]) = .ok x [tS [59] p1, tS [125] p2, ⟨0, p3, [], 0⟩] ∧ a = Nd.of 23 [fnN [Nd.of 12 [x]]] := by
  generalize hU : [tS [59] p1, tS [125] p2, (⟨0, p3, [], 0⟩ : T4)] = U at *
  unfold unitP at hu
  obtain ⟨L0, r0, hu, e⟩ := PR.bind_ok' hu
  cases e
  have ha : L0 = [fn] := ha
  subst ha
  rw [loop_succ, uS, if_neg (pre_kind _), item_fn] at hu
  cases hL : loopP (blockStep (recAt 59)) ((ts ++ U).length + 1) [] (ts ++ U) with
  | err p q => rw [hL] at hu; cases hu
  | ok L r1 =>
    rw [hL] at hu
    dsimp only [PR.bind] at hu
    -- the second round of the unit
    have hr1 : (hdT r1).kind = 0 ∧ fn = fnN L := by
      obtain ⟨m, hm⟩ : ∃ m, (preT ++ (ts ++ U)).length = m + 1 := ⟨(preT ++ (ts ++ U)).length - 1, by simp [preT]⟩
      rw [hm, loop_succ, uS] at hu
      by_cases h0 : (hdT r1).kind = 0
      · rw [if_pos h0] at hu
        simp only [List.nil_append, PR.ok.injEq, List.cons.injEq, and_true] at hu
        exact ⟨h0, hu.1.symm⟩
      · rw [if_neg h0] at hu
        exfalso
        cases hi : itemP (recAt 60) (recAt 59) r1 with
        | err p q => rw [hi] at hu; cases hu
        | ok c r2 =>
          rw [hi] at hu
          dsimp only [PR.bind] at hu
          have key : ∀ (n : Nat) (acc : List Nd) (ts : List T4) (L : List Nd) (r : List T4), loopP (unitStep (recAt 60) (recAt 59)) n acc ts = .ok L r → acc.length ≤ L.length := by
            intro n
            induction n with
            | zero => intro acc ts L r e; cases e
            | succ n ih =>
              intro acc ts L r e
              unfold loopP unitStep at e
              split at e
              · cases e
              · rename_i e2
                split at e2
                · cases e2; cases e; exact Nat.le_refl _
                · obtain ⟨_, _, _, e2⟩ := PR.bind_ok' e2
                  cases e2
              · rename_i e2
                split at e2
                · cases e2
                · obtain ⟨_, _, _, e2⟩ := PR.bind_ok' e2
                  cases e2
                  have := ih _ _ _ _ e
                  simp at this; omega
          have := key _ _ _ _ _ hu
          simp at this
    obtain ⟨hr1, rfl⟩ := hr1
    have hf : [Nd.of 17 L] = [b] := hf
    cases hf
    have hb : L = [st] := hb
    subst hb
    -- the block's rounds
    have hE : Ends (preT ++ (ts ++ U)) := by
      have : preT ++ (ts ++ U) = (preT ++ (ts ++ [tS [59] p1, tS [125] p2])) ++ [⟨0, p3, [], 0⟩] := by rw [← hU]; simp
      rw [this]; exact ends_app _ rfl rfl
    have hkinds : ∀ l, l <:+ ts ++ U → l ≠ [] → (hdT l).kind = 0 → l = [⟨0, p3, [], 0⟩] := by
      intro l hl hne h0
      cases l with
      | nil => exact absurd rfl hne
      | cons x r =>
        obtain ⟨k, hk⟩ := hl
        have hx0 : x.kind = 0 := h0
        have hsp : (ts ++ [tS [59] p1, tS [125] p2]) ++ [⟨0, p3, [], 0⟩] = k ++ x :: r := by rw [hk, ← hU]; simp
        rcases List.eq_nil_or_concat r with rfl | ⟨r', y, rfl⟩
        · obtain ⟨_, h2⟩ := List.append_inj' hsp rfl
          exact h2.symm
        · exfalso
          have hsp2 : (ts ++ [tS [59] p1, tS [125] p2]) ++ [⟨0, p3, [], 0⟩] = (k ++ x :: r') ++ [y] := by rw [hsp]; simp
          obtain ⟨h1, _⟩ := List.append_inj' hsp2 rfl
          have hxm : x ∈ ts ++ [tS [59] p1, tS [125] p2] := by rw [h1]; simp
          rcases List.mem_append.1 hxm with h | h
          · exact hts x h hx0
          · simp at h; rcases h with rfl | rfl <;> cases hx0
    have hUl : U.length = 3 := by rw [← hU]; rfl
    rw [loop_succ, bS] at hL
    by_cases hp : isP [125] (ts ++ U) = true
    · rw [if_pos hp] at hL; cases hL
    · rw [if_neg hp] at hL
      cases hst : (recAt 59).stmt (ts ++ U) with
      | err p q => rw [hst] at hL; cases hL
      | ok n r2 =>
        rw [hst] at hL
        dsimp only [PR.bind] at hL
        obtain ⟨m, hm⟩ : ∃ m, (ts ++ U).length = m + 1 := ⟨(ts ++ U).length - 1, by simp [hUl]⟩
        rw [hm, loop_succ, bS] at hL
        by_cases hp2 : isP [125] r2 = true
        · rw [if_pos hp2] at hL
          simp only [List.nil_append, PR.ok.injEq, List.cons.injEq, and_true] at hL
          obtain ⟨rfl, hL⟩ := hL
          obtain ⟨x, r3, hx, hw, rfl⟩ := stmt_expr (R := recAt 58) hst hk
          have hsx := (RecSuf.at 58).ex _ _ _ hx
          obtain ⟨t3, rfl, ht3⟩ := want_cons (by simp) hw
          have h2ne : r2 ≠ [] := by intro e; rw [e] at hp2; cases hp2
          obtain ⟨t2, r4, rfl⟩ := List.exists_cons_of_ne_nil h2ne
          have hL2 : r4 = r1 := hL
          subst hL2
          have hr4 : r4 ≠ [] := by
            intro e
            subst e
            have h2 : [t2] <:+ preT ++ (ts ++ U) := ((List.suffix_cons t3 [t2]).trans hsx).trans (List.suffix_append _ _)
            obtain ⟨_, hh⟩ := hE.last t2 h2
            have : t2.text = [125] := eq_of_beq hp2
            rw [hh] at this; cases this
          have hs4 : r4 <:+ ts ++ U := ((List.suffix_cons t2 r4).trans (List.suffix_cons t3 _)).trans hsx
          have h4 := hkinds r4 hs4 hr4 hr1
          subst h4
          have : t3 :: t2 :: [(⟨0, p3, [], 0⟩ : T4)] = U := by
            obtain ⟨k, hk⟩ := hsx
            exact (List.append_inj' hk (by rw [hUl]; rfl)).2
          rw [this] at hx
          exact ⟨x, hx, rfl⟩
        · rw [if_neg hp2] at hL
          exfalso
          cases hs2 : (recAt 59).stmt r2 with
          | err p q => rw [hs2] at hL; cases hL
          | ok n2 r5 =>
            rw [hs2] at hL
            dsimp only [PR.bind] at hL
            have key : ∀ (n : Nat) (acc : List Nd) (ts : List T4) (L : List Nd) (r : List T4), loopP (blockStep (recAt 59)) n acc ts = .ok L r → acc.length ≤ L.length := by
              intro n
              induction n with
              | zero => intro acc ts L r e; cases e
              | succ n ih =>
                intro acc ts L r e
                unfold loopP blockStep at e
                split at e
                · cases e
                · rename_i e2
                  split at e2
                  · cases e2; cases e; exact Nat.le_refl _
                  · obtain ⟨_, _, _, e2⟩ := PR.bind_ok' e2
                    cases e2
                · rename_i e2
                  split at e2
                  · cases e2
                  · obtain ⟨_, _, _, e2⟩ := PR.bind_ok' e2
                    cases e2
                    have := ih _ _ _ _ e
                    simp at this; omega
            have := key _ _ _ _ _ hL
            simp at this
theorem neut_br (p1 p2 q1 : Nat) (r r' : List T4) : Neut (tS [59] p1 :: tS [125] p2 :: r) (tS [41] q1 :: tS [59] p1 :: r') where
  l2 := by simp
  l2' := by simp
  kd := rfl
  is' s h1 h2 := by
    have e1 : isP s (tS [59] p1 :: tS [125] p2 :: r) = false := beq_eq_false_iff_ne.2 (fun e => h2 e.symm)
    have e2 : isP s (tS [41] q1 :: tS [59] p1 :: r') = false := beq_eq_false_iff_ne.2 (fun e => h1 e.symm)
    rw [e1, e2]
  row := by show rowOf [59] = rowOf [41]; decide
/-- A first token of an expression is no word but sizeof. -/
theorem expr_word {ts : List T4} {x : Nd} {r : List T4} (h : (recAt 58).expr ts = .ok x r) (hk : (hdT ts).kind = 2) (hu : isUn (hdT ts).text = false) (h40 : isP [40] ts = false) : isP [115, 105, 122, 101, 111, 102] ts = true := by
  cases hs : isP [115, 105, 122, 101, 111, 102] ts with
  | true => rfl
  | false =>
    exfalso
    have h : exprF (recAt 57) ts = .ok x r := h
    unfold exprF binP at h
    obtain ⟨_, _, h, _⟩ := PR.bind_ok' h
    obtain ⟨_, _, h, _⟩ := PR.bind_ok' h
    have h : unaryF (recAt 56) ts = _ := h
    unfold unaryF at h
    rw [if_neg (by rw [hu]; simp), if_neg (by rw [hs]; simp), if_neg (by rw [h40]; simp)] at h
    unfold postP termP at h
    obtain ⟨_, _, h, _⟩ := PR.bind_ok' h
    rw [if_neg (by rw [hk]; decide), if_neg (by rw [hk]; decide)] at h
    obtain ⟨_, _, h, _⟩ := PR.bind_ok' h
    unfold wantP at h
    rw [if_neg (by rw [h40]; simp)] at h
    cases h
theorem loop_inr {α β : Type} {step : α → List T4 → PR (α ⊕ β)} {n : Nat} {a : α} {ts : List T4} {b : β} {r : List T4} (h : step a ts = .ok (.inr b) r) : loopP step (n + 1) a ts = .ok b r := by
  unfold loopP; rw [h]
theorem loop_inl {α β : Type} {step : α → List T4 → PR (α ⊕ β)} {n : Nat} {a a' : α} {ts r : List T4} (h : step a ts = .ok (.inl a') r) : loopP step (n + 1) a ts = loopP step n a' r := by
  conv => lhs; unfold loopP
  rw [h]
theorem loop_errG {α β : Type} {step : α → List T4 → PR (α ⊕ β)} {n : Nat} {a : α} {ts : List T4} {p : Nat} {e : Int} (h : step a ts = .err p e) : loopP step (n + 1) a ts = .err p e := by
  unfold loopP; rw [h]
theorem bracketed {ts : List T4} {x : Nd} {p1 p2 p3 q0 q1 : Nat} (hne : ∀ t ts', ts = t :: ts' → t.kind = 2 → isUn t.text = false ∧ t.text ≠ [40])
    (hx : (recAt 58).expr (ts ++ [tS [59] p1, tS [125] p2, ⟨0, p3, [], 0⟩]) = .ok x [tS [59] p1, tS [125] p2, ⟨0, p3, [], 0⟩]) :
    (∃ r, unitP (preT ++ (tS [40] q0 :: (ts ++ [tS [41] q1, tS [59] p1, tS [125] p2, ⟨0, p3, [], 0⟩]))) = .ok (Nd.of 23 [fnN [Nd.of 12 [x]]]) r) ∨ ∃ q, unitP (preT ++ (tS [40] q0 :: (ts ++ [tS [41] q1, tS [59] p1, tS [125] p2, ⟨0, p3, [], 0⟩]))) = .err q 4 := by
  have hts : ts ≠ [] := by
    intro e
    subst e
    have := ((RecShr.at 58).ex _ _ _ hx).2 (by simp)
    simp at this
  obtain ⟨t, ts', rfl⟩ := List.exists_cons_of_ne_nil hts
  have N := neut_br p1 p2 q1 [⟨0, p3, [], 0⟩] [tS [125] p2, ⟨0, p3, [], 0⟩]
  have hsim : (recAt 56).expr (t :: ts' ++ [tS [41] q1, tS [59] p1, tS [125] p2, ⟨0, p3, [], 0⟩]) = .ok x [tS [41] q1, tS [59] p1, tS [125] p2, ⟨0, p3, [], 0⟩] ∨ ∃ q, (recAt 56).expr (t :: ts' ++ [tS [41] q1, tS [59] p1, tS [125] p2, ⟨0, p3, [], 0⟩]) = .err q 4 := by
    rcases (RecSim.less (D := True) N trivial 58 56 (by omega)).ex false _ _ (Qm.k (t :: ts')) x _ hx with h | ⟨_, k, hk, h | ⟨_, h⟩⟩
    · simp at h
    · have : k = [] := by
        have := congrArg List.length hk
        exact List.eq_nil_of_length_eq_zero (by simp only [List.length_append, List.length_cons] at this; omega)
      subst this
      exact .inl h
    · exact .inr h
  have hw := expr_word hx
  have hun : unaryF (recAt 56) (tS [40] q0 :: (t :: ts' ++ [tS [41] q1, tS [59] p1, tS [125] p2, ⟨0, p3, [], 0⟩])) = postP (recAt 56) (tS [40] q0 :: (t :: ts' ++ [tS [41] q1, tS [59] p1, tS [125] p2, ⟨0, p3, [], 0⟩])) := by
    unfold unaryF
    rw [if_neg (show ¬ isUn (hdT (tS [40] q0 :: (t :: ts' ++ [tS [41] q1, tS [59] p1, tS [125] p2, ⟨0, p3, [], 0⟩]))).text = true by show ¬ isUn [40] = true; decide), if_neg (show ¬ isP [115, 105, 122, 101, 111, 102] (tS [40] q0 :: _) = true by show ¬ ([40] : List UInt8) == [115, 105, 122, 101, 111, 102]; decide), if_neg]
    rintro ⟨_, h2, h3⟩
    have h2 : t.kind = 2 := h2
    obtain ⟨g1, g2⟩ := hne t ts' rfl h2
    have h4 := hw h2 g1 (beq_eq_false_iff_ne.2 g2)
    have h3 : isP [115, 105, 122, 101, 111, 102] (t :: ts' ++ [tS [59] p1, tS [125] p2, ⟨0, p3, [], 0⟩]) = false := h3
    rw [h3] at h4; cases h4
  generalize hV : t :: ts' ++ [tS [41] q1, tS [59] p1, tS [125] p2, (⟨0, p3, [], 0⟩ : T4)] = V at *
  have hterm : postP (recAt 56) (tS [40] q0 :: V) = ((recAt 56).expr V).bind fun n r2 => (wantP [41] r2).bind fun _ r3 => loopP (postStep (recAt 56)) (r3.length + 1) n r3 := by
    unfold postP termP
    rw [if_neg (show ¬ (hdT (tS [40] q0 :: V)).kind = 1 by show ¬ (4 : Int) = 1; decide), if_neg (show ¬ (hdT (tS [40] q0 :: V)).kind = 3 by show ¬ (4 : Int) = 3; decide)]
    show ((((recAt 56).expr V).bind fun n r2 => (wantP [41] r2).bind fun _ r3 => .ok n r3)).bind _ = _
    cases (recAt 56).expr V with
    | err p e => rfl
    | ok n r2 =>
      show ((wantP [41] r2).bind fun _ r3 => .ok n r3).bind _ = (wantP [41] r2).bind _
      cases wantP [41] r2 <;> rfl
  have hstmt : (recAt 59).stmt (tS [40] q0 :: V) = ((recAt 58).expr (tS [40] q0 :: V)).bind fun n r => (wantP [59] r).bind fun _ r1 => .ok (Nd.of 12 [n]) r1 := rfl
  have hexpr : (recAt 58).expr (tS [40] q0 :: V) = ((unaryF (recAt 56) (tS [40] q0 :: V)).bind fun n r => loopP (binStep (binP (recAt 57) 8) 1) (r.length + 1) n r).bind fun n r => if isP [61] r = true then ((recAt 57).expr r.tail).bind fun m r2 => .ok (Nd.of 5 [n, m]) r2 else .ok n r := rfl
  have hunit : ∀ z : PR (List Nd), loopP (blockStep (recAt 59)) ((tS [40] q0 :: V).length + 1) [] (tS [40] q0 :: V) = z → unitP (preT ++ (tS [40] q0 :: V)) = ((z.bind fun L r => .ok (fnN L) r).bind fun a r => loopP uStep (preT ++ (tS [40] q0 :: V)).length [a] r).bind fun l r => .ok (Nd.of 23 l) r := by
    intro z hz
    unfold unitP
    rw [loop_succ, uS, if_neg (pre_kind _), item_fn, hz]
    cases z <;> rfl
  rcases hsim with h | ⟨q, h⟩
  · left
    have hp : postP (recAt 56) (tS [40] q0 :: V) = .ok x [tS [59] p1, tS [125] p2, ⟨0, p3, [], 0⟩] := by
      rw [hterm, h]; rfl
    have he : (recAt 58).expr (tS [40] q0 :: V) = .ok x [tS [59] p1, tS [125] p2, ⟨0, p3, [], 0⟩] := by
      rw [hexpr, hun, hp]; rfl
    have hs : (recAt 59).stmt (tS [40] q0 :: V) = .ok (Nd.of 12 [x]) [tS [125] p2, ⟨0, p3, [], 0⟩] := by
      rw [hstmt, he]; rfl
    have hb : loopP (blockStep (recAt 59)) ((tS [40] q0 :: V).length + 1) [] (tS [40] q0 :: V) = .ok [Nd.of 12 [x]] [⟨0, p3, [], 0⟩] := by
      rw [loop_inl (a' := [Nd.of 12 [x]]) (r := [tS [125] p2, ⟨0, p3, [], 0⟩])]
      · rfl
      · unfold blockStep
        rw [if_neg (show ¬ isP [125] (tS [40] q0 :: V) = true by show ¬ ([40] : List UInt8) == [125]; decide), hs]
        rfl
    refine ⟨[⟨0, p3, [], 0⟩], ?_⟩
    rw [hunit _ hb]
    rfl
  · right
    have hp : postP (recAt 56) (tS [40] q0 :: V) = .err q 4 := by
      rw [hterm, h]; rfl
    have he : (recAt 58).expr (tS [40] q0 :: V) = .err q 4 := by
      rw [hexpr, hun, hp]; rfl
    have hs : (recAt 59).stmt (tS [40] q0 :: V) = .err q 4 := by
      rw [hstmt, he]; rfl
    have hb : loopP (blockStep (recAt 59)) ((tS [40] q0 :: V).length + 1) [] (tS [40] q0 :: V) = .err q 4 := by
      apply loop_errG
      unfold blockStep
      rw [if_neg (show ¬ isP [125] (tS [40] q0 :: V) = true by show ¬ ([40] : List UInt8) == [125]; decide), hs]
      rfl
    exact ⟨q, by rw [hunit _ hb]; rfl⟩
end Go.Proofs.YtkbplcfehllbjaaGreatDoor
