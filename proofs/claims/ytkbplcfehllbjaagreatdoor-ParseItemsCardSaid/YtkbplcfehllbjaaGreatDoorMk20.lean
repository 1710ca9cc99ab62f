/- Merged: G1, G2. -/
import Derived.Test.YtkbplcfehllbjaaGreatDoorMk19
/- Plain: lists of tokens that are alike are read alike. -/
namespace Go.Proofs.YtkbplcfehllbjaaGreatDoor
structure Alike (E : Nat → Nat → Prop) (Q : List T4 → List T4 → Prop) : Prop where
  kd : ∀ {l l'}, Q l l' → (hdT l).kind = (hdT l').kind
  tx : ∀ {l l'}, Q l l' → (hdT l).text = (hdT l').text
  vl : ∀ {l l'}, Q l l' → (hdT l).val = (hdT l').val
  ps : ∀ {l l'}, Q l l' → E (hdT l).pos (hdT l').pos
  tl : ∀ {l l'}, Q l l' → Q l.tail l'.tail
  ln : ∀ {l l'}, Q l l' → l.length = l'.length
  nl : E 0 0
/-- Two answers that are alike. -/
def PRr {α : Type} (E : Nat → Nat → Prop) (Q : List T4 → List T4 → Prop) : PR α → PR α → Prop
  | .ok a r, .ok b r' => a = b ∧ Q r r'
  | .err p e, .err q f => E p q ∧ e = f
  | _, _ => False
variable {E : Nat → Nat → Prop} {Q : List T4 → List T4 → Prop}
def Alk {α : Type} (E : Nat → Nat → Prop) (Q : List T4 → List T4 → Prop) (p : List T4 → PR α) : Prop := ∀ l l', Q l l' → PRr E Q (p l) (p l')
theorem PRr.bind {α β : Type} {x y : PR α} {f g : α → List T4 → PR β} (h : PRr E Q x y) (k : ∀ a r r', Q r r' → PRr E Q (f a r) (g a r')) : PRr E Q (x.bind f) (y.bind g) := by
  cases x with
  | ok a r => cases y with
    | ok b r' => obtain ⟨rfl, h⟩ := h; exact k a r r' h
    | err q f => exact h.elim
  | err p e => cases y with
    | ok b r' => exact h.elim
    | err q f => exact h
theorem PRr.ite {α : Type} {c c' : Prop} [Decidable c] [Decidable c'] {a b a' b' : PR α} (hc : c ↔ c') (h1 : c → PRr E Q a a') (h2 : ¬ c → PRr E Q b b') : PRr E Q (if c then a else b) (if c' then a' else b') := by
  by_cases h : c
  · rw [if_pos h, if_pos (hc.1 h)]; exact h1 h
  · rw [if_neg h, if_neg (fun x => h (hc.2 x))]; exact h2 h
theorem PRr.pure {α : Type} {a b : α} {r r' : List T4} (h : Q r r') (e : a = b) : PRr E Q (.ok a r) (.ok b r') := ⟨e, h⟩
theorem Alike.isP (A : Alike E Q) {l l' : List T4} (h : Q l l') (s : List UInt8) : Go.Proofs.YtkbplcfehllbjaaGreatDoor.isP s l = Go.Proofs.YtkbplcfehllbjaaGreatDoor.isP s l' := by unfold Go.Proofs.YtkbplcfehllbjaaGreatDoor.isP; rw [A.tx h]
theorem Alike.fail (A : Alike E Q) {α : Type} {l l' : List T4} (h : Q l l') (e : Int) : PRr E Q (failP l e : PR α) (failP l' e) := ⟨A.ps h, rfl⟩
theorem Alike.want (A : Alike E Q) {l l' : List T4} (h : Q l l') (s : List UInt8) : PRr E Q (wantP s l) (wantP s l') := by
  unfold wantP
  exact PRr.ite (by rw [A.isP h]) (fun _ => .pure (A.tl h) rfl) (fun _ => A.fail h 2)
theorem T4.ext' {a b : T4} (h1 : a.kind = b.kind) (h2 : a.pos = b.pos) (h3 : a.text = b.text) (h4 : a.val = b.val) : a = b := by
  cases a; cases b; simp_all
theorem Alike.name (A : Alike E Q) {l l' : List T4} (h : Q l l') : PRr E Q (nameP l) (nameP l') := by
  have e : ∀ l, nameP l = if (hdT l).kind = 1 then .ok (hdT l).text l.tail else failP l 2 := fun l => by
    unfold nameP kindP; split <;> rfl
  rw [e, e]
  exact PRr.ite (by rw [A.kd h]) (fun _ => .pure (A.tl h) (A.tx h)) (fun _ => A.fail h 2)
theorem Alike.base (A : Alike E Q) {l l' : List T4} (h : Q l l') : PRr E Q (baseP l) (baseP l') := by
  unfold baseP
  rw [← A.tx h]
  cases typeKind (hdT l).text with
  | none => exact A.fail h 2
  | some k => exact PRr.ite Iff.rfl (fun _ => PRr.bind (A.name (A.tl h)) fun a r r' hr => .pure hr rfl) (fun _ => .pure (A.tl h) rfl)
theorem Alike.cons (A : Alike E Q) {a : T4} {r l' : List T4} (h : Q (a :: r) l') : ∃ b r', l' = b :: r' ∧ a.kind = b.kind ∧ a.text = b.text ∧ a.val = b.val ∧ E a.pos b.pos ∧ Q r r' := by
  cases l' with
  | nil => have := A.ln h; simp at this
  | cons b r' => exact ⟨b, r', rfl, A.kd h, A.tx h, A.vl h, A.ps h, A.tl h⟩
theorem Alike.nil (A : Alike E Q) {l' : List T4} (h : Q [] l') : l' = [] := by
  have := A.ln h; exact List.eq_nil_of_length_eq_zero (by simpa using this.symm)
theorem Alike.stars (A : Alike E Q) : ∀ (l l' : List T4) (t : Ty), Q l l' → (starsP l t).1 = (starsP l' t).1 ∧ Q (starsP l t).2 (starsP l' t).2
  | [], l', t, h => by have := A.nil h; subst this; exact ⟨rfl, h⟩
  | a :: r, l', t, h => by
    obtain ⟨b, r', rfl, h1, h2, h3, h4, h5⟩ := A.cons h
    unfold starsP
    rw [← h2]
    split
    · exact Alike.stars A r r' t.ptr h5
    · exact ⟨rfl, h⟩
theorem Alike.sizes (A : Alike E Q) : ∀ (n : Nat) (l l' : List T4), l.length ≤ n → Q l l' → PRr E Q (sizesP l) (sizesP l') := by
  intro n
  induction n with
  | zero =>
    intro l l' hl h
    have := List.eq_nil_of_length_eq_zero (by omega : l.length = 0)
    subst this
    have := A.nil h; subst this; exact ⟨rfl, h⟩
  | succ n ih =>
    intro l l' hl h
    match l, hl, h with
    | [], _, h => have := A.nil h; subst this; exact ⟨rfl, h⟩
    | [a], _, h =>
      obtain ⟨b, r', rfl, h1, h2, h3, h4, h5⟩ := A.cons h
      have := A.nil h5; subst this; exact ⟨rfl, h⟩
    | a :: b :: r, hl, h =>
      obtain ⟨a', l2, rfl, h1, h2, h3, h4, h5⟩ := A.cons h
      obtain ⟨b', r', rfl, g1, g2, g3, g4, g5⟩ := A.cons h5
      unfold sizesP
      rw [← h2, ← g1, ← g3]
      refine PRr.ite Iff.rfl (fun _ => PRr.ite Iff.rfl (fun _ => ⟨g4, rfl⟩) fun _ => PRr.ite Iff.rfl (fun _ => ?_) fun _ => ⟨g4, rfl⟩) (fun _ => ⟨rfl, h⟩)
      match r, hl, g5 with
      | [], _, g5 => have := A.nil g5; subst this; exact ⟨A.nl, rfl⟩
      | c :: r0, hl, g5 =>
        obtain ⟨c', r0', rfl, k1, k2, k3, k4, k5⟩ := A.cons g5
        dsimp only
        rw [← k2]
        exact PRr.ite Iff.rfl (fun _ => PRr.bind (ih r0 r0' (by simp at hl; omega) k5) fun a r r' hr => .pure hr rfl) (fun _ => ⟨k4, rfl⟩)
theorem Alike.size (A : Alike E Q) {l l' : List T4} (h : Q l l') : PRr E Q (sizesP l) (sizesP l') := A.sizes _ l l' (Nat.le_refl _) h
theorem Alike.loop (A : Alike E Q) {α β : Type} {step : α → List T4 → PR (α ⊕ β)} (hs : ∀ a, Alk E Q (step a)) : ∀ (n : Nat) (a : α) (l l' : List T4), Q l l' → PRr E Q (loopP step n a l) (loopP step n a l') := by
  intro n
  induction n with
  | zero => intro a l l' h; exact ⟨A.nl, rfl⟩
  | succ n ih =>
    intro a l l' h
    unfold loopP
    have h1 := hs a l l' h
    cases hx : step a l with
    | err p e => cases hy : step a l' with
      | err q f => rw [hx, hy] at h1; exact h1
      | ok b r' => rw [hx, hy] at h1; exact h1.elim
    | ok c r => cases hy : step a l' with
      | err q f => rw [hx, hy] at h1; exact h1.elim
      | ok b r' =>
        rw [hx, hy] at h1
        obtain ⟨rfl, h1⟩ := h1
        cases c with
        | inl a' => exact ih a' r r' h1
        | inr b' => exact ⟨rfl, h1⟩
theorem Alike.loopN (A : Alike E Q) {α β : Type} {step : α → List T4 → PR (α ⊕ β)} (hs : ∀ a, Alk E Q (step a)) (a : α) {l l' : List T4} (h : Q l l') : PRr E Q (loopP step (l.length + 1) a l) (loopP step (l'.length + 1) a l') := by
  rw [A.ln h]; exact A.loop hs _ a l l' h
theorem Alike.listStep (A : Alike E Q) {α : Type} {one : List T4 → PR α} (ho : Alk E Q one) (l : List α) : Alk E Q (listStep one l) := fun ts ts' h => by
  unfold Go.Proofs.YtkbplcfehllbjaaGreatDoor.listStep
  refine PRr.bind (ho ts ts' h) fun a r r' hr => PRr.ite (by rw [A.isP hr]) (fun _ => PRr.ite Iff.rfl (fun _ => A.fail hr 5) fun _ => .pure (A.tl hr) rfl) fun _ => ?_
  exact PRr.bind (A.want hr _) fun a r r' hr => .pure hr rfl
theorem Alike.list (A : Alike E Q) {α : Type} {one : List T4 → PR α} (ho : Alk E Q one) : Alk E Q (listP one) := fun ts ts' h => by
  unfold listP
  exact PRr.bind (A.want h _) fun a r r' hr => PRr.ite (by rw [A.isP hr]) (fun _ => .pure (A.tl hr) rfl) fun _ => A.loopN (A.listStep ho) [] hr
structure RecAlk (E : Nat → Nat → Prop) (Q : List T4 → List T4 → Prop) (R : Rec) : Prop where
  ex : Alk E Q R.expr
  un : Alk E Q R.unary
  st : Alk E Q R.stmt
  ty : Alk E Q R.typename
variable {R : Rec}
theorem RecAlk.pointerTo (A : Alike E Q) (h : RecAlk E Q R) (t : Ty) : Alk E Q (pointerToP R t) := fun l l' hl => by
  unfold pointerToP
  exact PRr.bind (A.list h.ty l l' hl) fun a r r' hr => .pure hr rfl
theorem RecAlk.typename (A : Alike E Q) (h : RecAlk E Q R) : Alk E Q (typenameF R) := fun l l' hl => by
  unfold typenameF
  refine PRr.bind (A.base hl) fun t r r' hr => ?_
  obtain ⟨h1, h2⟩ := A.stars r r' t hr
  dsimp only
  rw [← h1]
  exact PRr.ite (by rw [A.isP h2]) (fun _ => PRr.bind (A.want (A.tl h2) _) fun _ r r' hr => PRr.bind (A.want hr _) fun _ r r' hr => h.pointerTo A _ r r' hr) fun _ => .pure h2 rfl
theorem RecAlk.declared (A : Alike E Q) (h : RecAlk E Q R) (k : Int) (t : Ty) : Alk E Q (declaredP R k t) := fun l l' hl => by
  unfold declaredP
  refine PRr.ite (by rw [A.isP hl]) (fun _ => ?_) fun _ => ?_
  · exact PRr.bind (A.want (A.tl hl) _) fun _ r r' hr => PRr.bind (A.name hr) fun _ r r' hr => PRr.bind (A.size hr) fun _ r r' hr => PRr.bind (A.want hr _) fun _ r r' hr => PRr.bind (h.pointerTo A _ r r' hr) fun _ r r' hr => .pure hr rfl
  · exact PRr.bind (A.name hl) fun _ r r' hr => PRr.bind (A.size hr) fun _ r r' hr => .pure hr rfl
theorem RecAlk.decl (A : Alike E Q) (h : RecAlk E Q R) : Alk E Q (declP R) := fun l l' hl => by
  unfold declP
  refine PRr.bind (A.base hl) fun t r r' hr => ?_
  obtain ⟨h1, h2⟩ := A.stars r r' t hr
  rw [← h1]
  exact h.declared A 13 _ _ _ h2
theorem RecAlk.enclosed (A : Alike E Q) (h : RecAlk E Q R) : Alk E Q (enclosedP R) := fun l l' hl => by
  unfold enclosedP
  exact PRr.bind (A.want hl _) fun _ r r' hr => PRr.bind (h.ty r r' hr) fun _ r r' hr => PRr.bind (A.want hr _) fun _ r r' hr => .pure hr rfl
theorem RecAlk.condition (A : Alike E Q) (h : RecAlk E Q R) : Alk E Q (conditionP R) := fun l l' hl => by
  unfold conditionP
  exact PRr.bind (A.want hl _) fun _ r r' hr => PRr.bind (h.ex r r' hr) fun _ r r' hr => PRr.bind (A.want hr _) fun _ r r' hr => .pure hr rfl
theorem RecAlk.term (A : Alike E Q) (h : RecAlk E Q R) : Alk E Q (termP R) := fun l l' hl => by
  unfold termP
  refine PRr.ite (by rw [A.kd hl]) (fun _ => .pure (A.tl hl) (by rw [A.tx hl])) fun _ => PRr.ite (by rw [A.kd hl]) (fun _ => .pure (A.tl hl) (by rw [A.vl hl])) fun _ => ?_
  exact PRr.bind (A.want hl _) fun _ r r' hr => PRr.bind (h.ex r r' hr) fun _ r r' hr => PRr.bind (A.want hr _) fun _ r r' hr => .pure hr rfl
theorem RecAlk.postStep (A : Alike E Q) (h : RecAlk E Q R) (n : Nd) : Alk E Q (postStep R n) := fun l l' hl => by
  unfold Go.Proofs.YtkbplcfehllbjaaGreatDoor.postStep
  refine PRr.ite (by rw [A.isP hl]) (fun _ => ?_) fun _ => PRr.ite (by rw [A.isP hl]) (fun _ => ?_) fun _ => PRr.ite (by rw [A.isP hl]) (fun _ => ?_) fun _ => PRr.ite (by rw [A.isP hl]) (fun _ => ?_) fun _ => .pure hl rfl
  · exact PRr.bind (h.ex _ _ (A.tl hl)) fun _ r r' hr => PRr.bind (A.want hr _) fun _ r r' hr => .pure hr rfl
  · exact PRr.bind (A.name (A.tl hl)) fun _ r r' hr => .pure hr rfl
  · exact PRr.bind (A.name (A.tl hl)) fun _ r r' hr => .pure hr rfl
  · exact PRr.bind (A.list h.ex _ _ hl) fun _ r r' hr => .pure hr rfl
theorem RecAlk.post (A : Alike E Q) (h : RecAlk E Q R) : Alk E Q (postP R) := fun l l' hl => by
  unfold postP
  exact PRr.bind (h.term A l l' hl) fun n r r' hr => A.loopN (h.postStep A) n hr
theorem RecAlk.unary (A : Alike E Q) (h : RecAlk E Q R) : Alk E Q (unaryF R) := fun l l' hl => by
  unfold unaryF
  refine PRr.ite (by rw [A.tx hl]) (fun _ => ?_) fun _ => PRr.ite (by rw [A.isP hl]) (fun _ => ?_) fun _ => PRr.ite (by rw [A.isP hl, A.kd (A.tl hl), A.isP (A.tl hl)]) (fun _ => ?_) fun _ => h.post A l l' hl
  · exact PRr.bind (h.un _ _ (A.tl hl)) fun _ r r' hr => .pure hr (by rw [A.tx hl])
  · exact PRr.bind (h.enclosed A _ _ (A.tl hl)) fun _ r r' hr => .pure hr rfl
  · exact PRr.bind (h.enclosed A _ _ hl) fun _ r r' hr => PRr.bind (h.un r r' hr) fun _ r r' hr => .pure hr rfl
theorem RecAlk.bin (A : Alike E Q) (h : RecAlk E Q R) : ∀ (f least : Nat), Alk E Q (binP R f least) := by
  intro f
  induction f with
  | zero => intro least l l' hl; exact ⟨A.nl, rfl⟩
  | succ f ih =>
    intro least l l' hl
    unfold binP
    refine PRr.bind (h.un l l' hl) fun n r r' hr => A.loopN (fun n l l' hl => ?_) n hr
    unfold binStep
    rw [← A.tx hl]
    exact PRr.ite Iff.rfl (fun _ => .pure hl rfl) fun _ => PRr.bind (ih _ _ _ (A.tl hl)) fun _ r r' hr => .pure hr rfl
theorem RecAlk.expr (A : Alike E Q) (h : RecAlk E Q R) : Alk E Q (exprF R) := fun l l' hl => by
  unfold exprF
  exact PRr.bind (h.bin A 9 1 l l' hl) fun n r r' hr => PRr.ite (by rw [A.isP hr]) (fun _ => PRr.bind (h.ex _ _ (A.tl hr)) fun _ r r' hr => .pure hr rfl) fun _ => .pure hr rfl
theorem RecAlk.block (A : Alike E Q) (h : RecAlk E Q R) : Alk E Q (blockP R) := fun l l' hl => by
  unfold blockP
  refine PRr.bind (A.want hl _) fun _ r r' hr => PRr.bind (A.loopN (fun k l l' hl => ?_) [] hr) fun _ r r' hr => .pure hr rfl
  unfold blockStep
  exact PRr.ite (by rw [A.isP hl]) (fun _ => .pure (A.tl hl) rfl) fun _ => PRr.bind (h.st l l' hl) fun _ r r' hr => .pure hr rfl
theorem RecAlk.choice (A : Alike E Q) (h : RecAlk E Q R) : Alk E Q (choiceP R) := fun l l' hl => by
  unfold choiceP
  exact PRr.bind (A.want hl _) fun _ r r' hr => PRr.bind (h.condition A r r' hr) fun _ r r' hr => PRr.bind (h.st r r' hr) fun _ r r' hr =>
    PRr.ite (by rw [A.isP hr]) (fun _ => PRr.bind (h.st _ _ (A.tl hr)) fun _ r r' hr => .pure hr rfl) fun _ => .pure hr rfl
theorem RecAlk.result (A : Alike E Q) (h : RecAlk E Q R) : Alk E Q (resultP R) := fun l l' hl => by
  unfold resultP
  exact PRr.bind (A.want hl _) fun _ r r' hr => PRr.ite (by rw [A.isP hr]) (fun _ => .pure (A.tl hr) rfl) fun _ => PRr.bind (h.ex r r' hr) fun _ r r' hr => PRr.bind (A.want hr _) fun _ r r' hr => .pure hr rfl
theorem Alike.leap (A : Alike E Q) (k : Int) : Alk E Q (leapP k) := fun l l' hl => by
  unfold leapP
  exact PRr.bind (A.want (A.tl hl) _) fun _ r r' hr => .pure hr rfl
theorem RecAlk.local' (A : Alike E Q) (h : RecAlk E Q R) : Alk E Q (localP R) := fun l l' hl => by
  unfold localP
  exact PRr.bind (h.decl A l l' hl) fun n r r' hr => PRr.ite (by rw [A.isP hr]) (fun _ => PRr.bind (h.ex _ _ (A.tl hr)) fun _ r r' hr => PRr.bind (A.want hr _) fun _ r r' hr => .pure hr rfl) fun _ => PRr.bind (A.want hr _) fun _ r r' hr => .pure hr rfl
theorem RecAlk.stmt (A : Alike E Q) (h : RecAlk E Q R) : Alk E Q (stmtF R) := fun l l' hl => by
  unfold stmtF
  refine PRr.ite (by rw [A.isP hl]) (fun _ => h.block A l l' hl) fun _ => PRr.ite (by rw [A.isP hl]) (fun _ => .pure (A.tl hl) rfl) fun _ => PRr.ite (by rw [A.isP hl]) (fun _ => h.choice A l l' hl) fun _ =>
    PRr.ite (by rw [A.isP hl]) (fun _ => ?_) fun _ => PRr.ite (by rw [A.isP hl]) (fun _ => h.result A l l' hl) fun _ => PRr.ite (by rw [A.isP hl]) (fun _ => A.leap 18 l l' hl) fun _ => PRr.ite (by rw [A.isP hl]) (fun _ => A.leap 19 l l' hl) fun _ =>
    PRr.ite (by rw [A.tx hl]) (fun _ => h.local' A l l' hl) fun _ => ?_
  · exact PRr.bind (h.condition A _ _ (A.tl hl)) fun _ r r' hr => PRr.bind (h.st r r' hr) fun _ r r' hr => .pure hr rfl
  · exact PRr.bind (h.ex l l' hl) fun _ r r' hr => PRr.bind (A.want hr _) fun _ r r' hr => .pure hr rfl
theorem RecAlk.at (A : Alike E Q) : ∀ (f : Nat), RecAlk E Q (recAt f)
  | 0 => ⟨fun _ _ h => A.fail h 4, fun _ _ h => A.fail h 4, fun _ _ h => A.fail h 4, fun _ _ h => A.fail h 4⟩
  | f + 1 => have h := RecAlk.at A f; ⟨h.expr A, h.unary A, h.stmt A, h.typename A⟩
theorem RecAlk.record (A : Alike E Q) (h : RecAlk E Q R) (t : Ty) : Alk E Q (recordP R t) := fun l l' hl => by
  unfold recordP
  refine PRr.bind (A.want hl _) fun _ r r' hr => PRr.bind (A.loopN (fun k l l' hl => ?_) [] hr) fun _ r r' hr => PRr.bind (A.want hr _) fun _ r r' hr => .pure hr rfl
  unfold recordStep
  exact PRr.ite (by rw [A.isP hl]) (fun _ => .pure (A.tl hl) rfl) fun _ => PRr.bind (h.decl A l l' hl) fun _ r r' hr => PRr.bind (A.want hr _) fun _ r r' hr => .pure hr rfl
theorem RecAlk.function (A : Alike E Q) (h : RecAlk E Q R) {R1 : Rec} (h1 : RecAlk E Q R1) (t : Ty) : Alk E Q (functionP R R1 t) := fun l l' hl => by
  unfold functionP
  exact PRr.bind (A.name hl) fun _ r r' hr => PRr.bind (A.list (h.decl A) r r' hr) fun _ r r' hr => PRr.bind (h1.block A r r' hr) fun _ r r' hr => .pure hr rfl
theorem RecAlk.item (A : Alike E Q) (h : RecAlk E Q R) {R1 : Rec} (h1 : RecAlk E Q R1) : Alk E Q (itemP R R1) := fun l l' hl => by
  unfold itemP
  refine PRr.bind (A.base hl) fun t r r' hr => ?_
  obtain ⟨g1, g2⟩ := A.stars r r' t hr
  dsimp only
  rw [← g1]
  refine PRr.ite (by rw [A.isP hr]) (fun _ => h.record A _ r r' hr) fun _ => PRr.ite (by rw [A.kd g2, A.isP (A.tl g2)]) (fun _ => h.function A h1 _ _ _ g2) fun _ => ?_
  exact PRr.bind (h.declared A 21 _ _ _ g2) fun _ r r' hr => PRr.bind (A.want hr _) fun _ r r' hr => .pure hr rfl
theorem Alike.unit (A : Alike E Q) : Alk E Q unitP := fun l l' hl => by
  unfold unitP
  refine PRr.bind (A.loopN (fun k l l' hl => ?_) [] hl) fun _ r r' hr => .pure hr rfl
  unfold unitStep
  exact PRr.ite (by rw [A.kd hl]) (fun _ => .pure hl rfl) fun _ => PRr.bind ((RecAlk.at A 60).item A (RecAlk.at A 59) l l' hl) fun _ r r' hr => .pure hr rfl
/-- A rest is an end of what was read. -/
theorem alike_suf (L : List T4) : Alike (fun _ _ => True) (fun l l' => l = l' ∧ (l <:+ L)) where
  kd h := by rw [h.1]
  tx h := by rw [h.1]
  vl h := by rw [h.1]
  ps _ := trivial
  tl h := ⟨by rw [h.1], (List.tail_suffix _).trans h.2⟩
  ln h := by rw [h.1]
  nl := trivial
def Suf {α : Type} (p : List T4 → PR α) : Prop := ∀ ts a r, p ts = .ok a r → r <:+ ts
theorem Suf.of {α : Type} {p : List T4 → PR α} (h : ∀ L, Alk (fun _ _ => True) (fun l l' => l = l' ∧ (l <:+ L)) p) : Suf p := fun ts a r e => by
  have h1 := h ts ts ts ⟨rfl, List.suffix_refl _⟩
  rw [e] at h1
  exact h1.2.2
/-- Where it fails lies within. -/
theorem alike_pos (L : Nat) : Alike (fun p q => p = q ∧ p ≤ L) (fun l l' => l = l' ∧ ∀ t ∈ l, t.pos ≤ L) where
  kd h := by rw [h.1]
  tx h := by rw [h.1]
  vl h := by rw [h.1]
  ps {l l'} h := by
    obtain ⟨rfl, h⟩ := h
    refine ⟨rfl, ?_⟩
    cases l with
    | nil => exact Nat.zero_le _
    | cons a r => exact h a (List.mem_cons_self ..)
  tl {l l'} h := ⟨by rw [h.1], fun t ht => h.2 t (List.mem_of_mem_tail ht)⟩
  ln h := by rw [h.1]
  nl := ⟨rfl, Nat.zero_le _⟩
theorem unit_pos {l : List T4} {L p : Nat} {e : Int} (h : ∀ t ∈ l, t.pos ≤ L) (hu : unitP l = .err p e) : p ≤ L := by
  have h1 := (alike_pos L).unit l l ⟨rfl, h⟩
  rw [hu] at h1
  exact h1.1.2
/-- Places turn nothing of the tree. -/
def T4.key (t : T4) : Int × List UInt8 × Int := (t.kind, t.text, t.val)
theorem key_hd {l l' : List T4} (h : l.map T4.key = l'.map T4.key) : (hdT l).key = (hdT l').key := by
  cases l with
  | nil => cases l' with
    | nil => rfl
    | cons b r => simp at h
  | cons a r => cases l' with
    | nil => simp at h
    | cons b r' => simp only [List.map_cons, List.cons.injEq] at h; exact h.1
theorem alike_text : Alike (fun _ _ => True) (fun l l' => l.map T4.key = l'.map T4.key) where
  kd h := congrArg Prod.fst (key_hd h)
  tx h := congrArg (fun x => x.2.1) (key_hd h)
  vl h := congrArg (fun x => x.2.2) (key_hd h)
  ps _ := trivial
  tl h := by rw [List.map_tail, List.map_tail, h]
  ln h := by have := congrArg List.length h; simpa using this
  nl := trivial
end Go.Proofs.YtkbplcfehllbjaaGreatDoor
/- Plain: what stands behind the tokens that are read turns nothing, but for its first one's kind. -/
namespace Go.Proofs.YtkbplcfehllbjaaGreatDoor
/-- Two rests which no part of an expression tells apart. -/
structure Neut (u u' : List T4) : Prop where
  l2 : 2 ≤ u.length
  l2' : 2 ≤ u'.length
  kd : (hdT u).kind = (hdT u').kind
  is' : ∀ s, s ≠ [41] → s ≠ [59] → isP s u = isP s u'
  row : rowOf (hdT u).text = rowOf (hdT u').text
def Qm (u u' : List T4) (W : Bool) (l l' : List T4) : Prop := if W = true then l.length < u.length else ∃ k, l = k ++ u ∧ l' = k ++ u'
def PRm {α : Type} (u u' : List T4) (D : Prop) (W : Bool) (x y : PR α) : Prop :=
  ∀ a r, x = .ok a r → r.length < u.length ∨ (W = false ∧ ∃ k, r = k ++ u ∧ (y = .ok a (k ++ u') ∨ (D ∧ ∃ q, y = .err q 4)))
def Sim {α : Type} (u u' : List T4) (D : Prop) (p p' : List T4 → PR α) : Prop := ∀ W l l', Qm u u' W l l' → PRm u u' D W (p l) (p' l')
section
variable {u u' : List T4} {D : Prop}
theorem Qm.k (k : List T4) : Qm u u' false (k ++ u) (k ++ u') := ⟨k, rfl, rfl⟩
theorem Qm.small {l : List T4} (h : l.length < u.length) (l' : List T4) : Qm u u' true l l' := h
theorem PRm.weak {α : Type} {x y z : PR α} {W : Bool} (h : PRm u u' D true x z) : PRm u u' D W x y := fun a r e => by
  rcases h a r e with h | ⟨h, _⟩
  · exact .inl h
  · cases h
theorem PRm.bind {α β : Type} {W : Bool} {x y : PR α} {f g : α → List T4 → PR β} (h : PRm u u' D W x y) (k : ∀ W' a r r', Qm u u' W' r r' → PRm u u' D W' (f a r) (g a r')) : PRm u u' D W (x.bind f) (y.bind g) := fun b r2 e => by
  cases x with
  | err p q => cases e
  | ok a r1 =>
    rcases h a r1 rfl with h | ⟨rfl, k1, rfl, rfl | ⟨hd, q, rfl⟩⟩
    · rcases k true a r1 r1 h b r2 e with h2 | ⟨h2, _⟩
      · exact .inl h2
      · cases h2
    · exact k false a _ _ (Qm.k k1) b r2 e
    · rcases k false a _ _ (Qm.k k1) b r2 e with h2 | ⟨_, k2, rfl, _⟩
      · exact .inl h2
      · exact .inr ⟨rfl, k2, rfl, .inr ⟨hd, q, rfl⟩⟩
theorem PRm.pure {α : Type} {W : Bool} {a b : α} {r r' : List T4} (h : Qm u u' W r r') (e : a = b) : PRm u u' D W (.ok a r) (.ok b r') := fun c r2 e2 => by
  subst e
  cases e2
  cases W with
  | true => exact .inl h
  | false => obtain ⟨k, rfl, rfl⟩ := h; exact .inr ⟨rfl, k, rfl, .inl rfl⟩
theorem PRm.err {α : Type} {W : Bool} {p : Nat} {e : Int} {y : PR α} : PRm u u' D W (.err p e) y := fun _ _ h => by cases h
theorem PRm.ite {α : Type} {W : Bool} {c c' : Prop} [Decidable c] [Decidable c'] {a b a' b' : PR α} (hc : W = false → (c ↔ c')) (h1 : c → PRm u u' D W a a') (h2 : ¬ c → PRm u u' D W b b') : PRm u u' D W (if c then a else b) (if c' then a' else b') := by
  cases W with
  | true =>
    by_cases h : c
    · rw [if_pos h]; exact (h1 h).weak
    · rw [if_neg h]; exact (h2 h).weak
  | false =>
    by_cases h : c
    · rw [if_pos h, if_pos ((hc rfl).1 h)]; exact h1 h
    · rw [if_neg h, if_neg (fun x => h ((hc rfl).2 x))]; exact h2 h
theorem Qm.hd (N : Neut u u') {l l' : List T4} (h : Qm u u' false l l') : (hdT l).kind = (hdT l').kind ∧ (∀ s, s ≠ [41] → s ≠ [59] → isP s l = isP s l') ∧ rowOf (hdT l).text = rowOf (hdT l').text := by
  obtain ⟨k, rfl, rfl⟩ := h
  cases k with
  | nil => exact ⟨N.kd, N.is', N.row⟩
  | cons x k => exact ⟨rfl, fun _ _ _ => rfl, rfl⟩
theorem Neut.iteP (N : Neut u u') {α : Type} {W : Bool} {s : List UInt8} {r r' : List T4} (hq : Qm u u' W r r') (hs : s ≠ [41]) (hs' : s ≠ [59]) {a b a' b' : PR α} (h1 : PRm u u' D W a a') (h2 : PRm u u' D W b b') :
    PRm u u' D W (if isP s r = true then a else b) (if isP s r' = true then a' else b') :=
  PRm.ite (fun e => by subst e; rw [(hq.hd N).2.1 s hs hs']) (fun _ => h1) (fun _ => h2)
theorem Sim.of_shr (N : Neut u u') {α : Type} {p p' : List T4 → PR α} (hs : Shr p) (h : ∀ x k, PRm u u' D false (p (x :: (k ++ u))) (p' (x :: (k ++ u')))) : Sim u u' D p p' := fun W l l' hq => by
  cases W with
  | true => intro a r e; left; have := (hs _ _ _ e).1; have : l.length < u.length := hq; omega
  | false =>
    obtain ⟨k, rfl, rfl⟩ := hq
    cases k with
    | nil => intro a r e; left; exact (hs _ _ _ e).2 (fun e => by have := N.l2; rw [show u = [] from e] at this; simp at this)
    | cons x k => exact h x k
theorem Sim.of_le {α : Type} {p p' : List T4 → PR α} (hs : ShrLe p) (h : ∀ k, PRm u u' D false (p (k ++ u)) (p' (k ++ u'))) : Sim u u' D p p' := fun W l l' hq => by
  cases W with
  | true => intro a r e; left; have := hs _ _ _ e; have : l.length < u.length := hq; omega
  | false => obtain ⟨k, rfl, rfl⟩ := hq; exact h k
theorem Sim.tail (N : Neut u u') {α : Type} {p p' : List T4 → PR α} (h : Sim u u' D p p') {W : Bool} {l l' : List T4} (hq : Qm u u' W l l') : PRm u u' D W (p l.tail) (p' l'.tail) := by
  cases W with
  | true => exact h true _ _ (Qm.small (by have : l.length < u.length := hq; have := tail_le l; omega) _)
  | false =>
    obtain ⟨k, rfl, rfl⟩ := hq
    cases k with
    | nil => exact (h true u.tail u.tail (Qm.small (by have := N.l2; simp; omega) _)).weak
    | cons x k => exact h false _ _ (Qm.k k)
theorem PRm.pureT (N : Neut u u') {α : Type} {W : Bool} {a : α} {l l' : List T4} (hq : Qm u u' W l l') : PRm u u' D W (.ok a l.tail) (.ok a l'.tail) :=
  Sim.tail N (p := fun ts => .ok a ts) (p' := fun ts => .ok a ts) (fun _ _ _ h => .pure h rfl) hq
theorem Sim.want (N : Neut u u') (s : List UInt8) : Sim u u' D (wantP s) (wantP s) := Sim.of_shr N (Shr.want s) fun _ k =>
  PRm.ite (fun _ => Iff.rfl) (fun _ => .pure (Qm.k k) rfl) (fun _ => .err)
theorem Sim.kind (N : Neut u u') (s : Int) : Sim u u' D (kindP s) (kindP s) := Sim.of_shr N (Shr.kind s) fun _ k =>
  PRm.ite (fun _ => Iff.rfl) (fun _ => .pure (Qm.k k) rfl) (fun _ => .err)
theorem Sim.name (N : Neut u u') : Sim u u' D nameP nameP := fun W l l' h => PRm.bind (Sim.kind N 1 W l l' h) fun _ _ _ _ hr => .pure hr rfl
theorem Sim.base (N : Neut u u') : Sim u u' D baseP baseP := Sim.of_shr N Shr.base fun x k => by
  have e : ∀ l, baseP (x :: l) = match typeKind x.text with | none => failP (x :: l) 2 | some k => if k = 7 ∨ k = 8 then (nameP l).bind fun nm r => .ok (.mk k 0 nm []) r else .ok (.mk k 0 [] []) l := fun _ => rfl
  rw [e, e]
  cases typeKind x.text with
  | none => exact .err
  | some k => exact PRm.ite (fun _ => Iff.rfl) (fun _ => PRm.bind (Sim.name N _ _ _ (Qm.k _)) fun _ a r r' hr => .pure hr rfl) fun _ => .pure (Qm.k _) rfl
theorem stars_end {l : List T4} (t : Ty) (h : isP [42] l = false) : starsP l t = (t, l) := by
  cases l with
  | nil => rfl
  | cons a r =>
    unfold starsP
    rw [if_neg]
    intro e
    have : isP [42] (a :: r) = true := by show (a.text == [42]) = true; rw [e]; rfl
    rw [h] at this; cases this
theorem Neut.stars (N : Neut u u') {α : Type} {F G : Ty → List T4 → PR α} (h : ∀ W t r r', Qm u u' W r r' → PRm u u' D W (F t r) (G t r')) (W : Bool) (l l' : List T4) (t : Ty) (hq : Qm u u' W l l') :
    PRm u u' D W (F (starsP l t).1 (starsP l t).2) (G (starsP l' t).1 (starsP l' t).2) := by
  cases W with
  | true => exact (h true _ _ [] (Qm.small (by have : l.length < u.length := hq; have := stars_le l t; omega) _)).weak
  | false =>
    obtain ⟨k, rfl, rfl⟩ := hq
    induction k generalizing t with
    | nil =>
      cases hs : isP [42] u with
      | false =>
        have hs' : isP [42] u' = false := by rw [← N.is' [42] (by decide) (by decide)]; exact hs
        simp only [List.nil_append]
        rw [stars_end t hs, stars_end t hs']
        exact h false t u u' (Qm.k [])
      | true =>
        have hl : (starsP u t).2.length < u.length := by
          have := N.l2
          cases u with
          | nil => simp at this
          | cons a r =>
            unfold starsP
            rw [if_pos (show a.text = [42] from eq_of_beq hs)]
            have := stars_le r t.ptr
            simp; omega
        exact (h true _ _ [] (Qm.small hl _)).weak
    | cons x k ih =>
      simp only [List.cons_append]
      unfold starsP
      split
      · exact ih t.ptr
      · exact h false t (x :: (k ++ u)) (x :: (k ++ u')) (Qm.k (x :: k))
theorem sizes_end {l : List T4} (h : isP [91] l = false) : sizesP l = .ok [] l := by
  match l, h with
  | [], _ => rfl
  | [a], _ => rfl
  | a :: b :: r, h =>
    unfold sizesP
    rw [if_neg]
    intro e
    have : isP [91] (a :: b :: r) = true := by show (a.text == [91]) = true; rw [e]; rfl
    rw [h] at this; cases this
theorem sizes_shr {l : List T4} (h : isP [91] l = true) (h2 : 2 ≤ l.length) {a : List Int} {r : List T4} (e : sizesP l = .ok a r) : r.length < l.length := by
  match l, h, h2, e with
  | a :: b :: r0, h, _, e =>
    have h : a.text = [91] := eq_of_beq h
    unfold sizesP at e
    rw [if_pos h] at e
    split at e
    · cases e
    · split at e
      · match r0, e with
        | [], e => cases e
        | c :: r', e =>
          dsimp only at e
          split at e
          · cases hs : sizesP r' with
            | err x y => simp [hs] at e
            | ok l' r'' =>
              simp [hs] at e
              have := sizes_le _ r' (Nat.le_refl _) l' r'' hs
              obtain ⟨_, rfl⟩ := e
              simp; omega
          · cases e
      · cases e
theorem Sim.sizes (N : Neut u u') : Sim u u' D sizesP sizesP := Sim.of_le ShrLe.sizes fun k => by
  have key : ∀ n k, k.length ≤ n → PRm u u' D false (sizesP (k ++ u)) (sizesP (k ++ u')) := by
    intro n
    induction n with
    | zero =>
      intro k hk
      have := List.eq_nil_of_length_eq_zero (by omega : k.length = 0)
      subst this
      simp only [List.nil_append]
      cases hs : isP [91] u with
      | false =>
        rw [sizes_end hs, sizes_end (by rw [← N.is' [91] (by decide) (by decide)]; exact hs)]
        exact .pure (Qm.k []) rfl
      | true => intro a r e; exact .inl (sizes_shr hs N.l2 e)
    | succ n ih =>
      intro k hk
      match k, hk with
      | [], _ => exact ih [] (Nat.zero_le _)
      | [a], _ =>
        cases hs : isP [91] ([a] ++ u) with
        | false => rw [sizes_end hs, sizes_end (l := [a] ++ u') hs]; exact .pure (Qm.k [a]) rfl
        | true =>
          intro x r e
          left
          have h2 := N.l2
          have h : a.text = [91] := eq_of_beq hs
          match u, h2, e with
          | b :: c :: r0, _, e =>
            simp only [List.cons_append, List.nil_append] at e
            unfold sizesP at e
            rw [if_pos h] at e
            split at e
            · cases e
            · split at e
              · dsimp only at e
                split at e
                · cases hs : sizesP r0 with
                  | err x y => simp [hs] at e
                  | ok l' r'' =>
                    simp [hs] at e
                    have := sizes_le _ r0 (Nat.le_refl _) l' r'' hs
                    obtain ⟨_, rfl⟩ := e
                    simp; omega
                · cases e
              · cases e
      | [a, b], _ =>
        cases hs : isP [91] ([a, b] ++ u) with
        | false => rw [sizes_end hs, sizes_end (l := [a, b] ++ u') hs]; exact .pure (Qm.k [a, b]) rfl
        | true =>
          intro x r e
          left
          have h2 := N.l2
          have h : a.text = [91] := eq_of_beq hs
          match u, h2, e with
          | c :: r0, _, e =>
            simp only [List.cons_append, List.nil_append] at e
            unfold sizesP at e
            rw [if_pos h] at e
            split at e
            · cases e
            · split at e
              · dsimp only at e
                split at e
                · cases hs : sizesP r0 with
                  | err x y => simp [hs] at e
                  | ok l' r'' =>
                    simp [hs] at e
                    have := sizes_le _ r0 (Nat.le_refl _) l' r'' hs
                    obtain ⟨_, rfl⟩ := e
                    simp; omega
                · cases e
              · cases e
      | a :: b :: c :: k, hk =>
        simp only [List.cons_append]
        unfold sizesP
        refine PRm.ite (fun _ => Iff.rfl) (fun _ => PRm.ite (fun _ => Iff.rfl) (fun _ => .err) fun _ => PRm.ite (fun _ => Iff.rfl) (fun _ => ?_) fun _ => .err) (fun _ => .pure (Qm.k (a :: b :: c :: k)) rfl)
        exact PRm.ite (fun _ => Iff.rfl) (fun _ => PRm.bind (ih k (by simp at hk; omega)) fun _ a r r' hr => .pure hr rfl) (fun _ => .err)
  exact key _ k (Nat.le_refl _)
/-- A loop whose rounds that go on take tokens away. -/
def Dec {α β : Type} (step : α → List T4 → PR (α ⊕ β)) : Prop := ∀ a l a' r, step a l = .ok (.inl a') r → l ≠ [] → r.length < l.length
theorem Sim.loop (N : Neut u u') {α β : Type} {step step' : α → List T4 → PR (α ⊕ β)} (hl : ∀ a, ShrLe (step a)) (hd : Dec step) (hs : ∀ a, Sim u u' D (step a) (step' a)) :
    ∀ (n m : Nat) (a : α) (k : List T4), k.length < m → PRm u u' D false (loopP step n a (k ++ u)) (loopP step' m a (k ++ u')) := by
  have small : ∀ (n : Nat) (a : α) (l : List T4) (z : PR β), l.length < u.length → PRm u u' D true (loopP step n a l) z := by
    intro n a l z h b r e
    left
    have := ShrLe.loop hl n a l b r e
    omega
  have hu : u ≠ [] := fun e => by have := N.l2; rw [e] at this; simp at this
  intro n
  induction n with
  | zero => intro m a k _; exact .err
  | succ n ih =>
    intro m a k hm
    obtain ⟨m, rfl⟩ : ∃ m', m = m' + 1 := ⟨m - 1, by omega⟩
    intro b r e
    unfold loopP at e
    cases hx : step a (k ++ u) with
    | err p q => rw [hx] at e; cases e
    | ok c r1 =>
      rw [hx] at e
      have h1 := hs a false _ _ (Qm.k k) c r1 hx
      cases c with
      | inr b' =>
        dsimp only at e
        cases e
        rcases h1 with h1 | ⟨_, k1, rfl, h1 | ⟨hD, q, h1⟩⟩
        · exact .inl h1
        · exact .inr ⟨rfl, k1, rfl, .inl (by unfold loopP; rw [h1])⟩
        · exact .inr ⟨rfl, k1, rfl, .inr ⟨hD, q, by unfold loopP; rw [h1]⟩⟩
      | inl a' =>
        dsimp only at e
        have hlt := hd a _ a' r1 hx (by simp [hu])
        rcases h1 with h1 | ⟨_, k1, rfl, h1 | ⟨hD, q, h1⟩⟩
        · rcases small n a' r1 (.err 0 0) h1 b r e with h | ⟨h, _⟩
          · exact .inl h
          · cases h
        · have hk1 : k1.length < m := by simp at hlt; omega
          have h2 := ih m a' k1 hk1 b r e
          unfold loopP
          rw [h1]
          exact h2
        · have h2 := ih (k1.length + 1) a' k1 (by omega) b r e
          rcases h2 with h2 | ⟨_, k2, rfl, _⟩
          · exact .inl h2
          · exact .inr ⟨rfl, k2, rfl, .inr ⟨hD, q, by unfold loopP; rw [h1]⟩⟩
theorem Sim.loopN (N : Neut u u') {α β : Type} {step step' : α → List T4 → PR (α ⊕ β)} (hl : ∀ a, ShrLe (step a)) (hd : Dec step) (hs : ∀ a, Sim u u' D (step a) (step' a)) (a : α) :
    Sim u u' D (fun r => loopP step (r.length + 1) a r) (fun r => loopP step' (r.length + 1) a r) :=
  Sim.of_le (ShrLe.loopN hl a) fun k => Sim.loop N hl hd hs _ _ a k (by simp; omega)
theorem Shr.loop1 {α β : Type} {step : α → List T4 → PR (α ⊕ β)} (hs : ∀ a, Shr (step a)) (n : Nat) (a : α) : Shr (loopP step n a) := fun ts b r e => by
  cases n with
  | zero => cases e
  | succ n =>
    unfold loopP at e
    cases hx : step a ts with
    | err p q => rw [hx] at e; cases e
    | ok c r1 =>
      rw [hx] at e
      have h1 := hs a ts c r1 hx
      cases c with
      | inr b' => dsimp only at e; cases e; exact h1
      | inl a' =>
        dsimp only at e
        have h2 := ShrLe.loop (fun a => (hs a).le) n a' r1 b r e
        exact ⟨by omega, fun h => by have := h1.2 h; omega⟩
theorem Shr.listStep {α : Type} {one : List T4 → PR α} (h : Shr one) (l : List α) : Shr (listStep one l) := by
  unfold Go.Proofs.YtkbplcfehllbjaaGreatDoor.listStep
  refine Shr.bind h fun a => ShrLe.ite (ShrLe.ite (Shr.fail 5).le (Shr.pureT _).le) ?_
  exact ShrLe.bind (Shr.want _).le fun _ => ShrLe.pure _
theorem Sim.listStep (N : Neut u u') {α : Type} {one one' : List T4 → PR α} (ho : Sim u u' D one one') (l : List α) : Sim u u' D (listStep one l) (listStep one' l) := fun W ts ts' h => by
  unfold Go.Proofs.YtkbplcfehllbjaaGreatDoor.listStep
  refine PRm.bind (ho W ts ts' h) fun W a r r' hr => N.iteP hr (by decide) (by decide) (PRm.ite (fun _ => Iff.rfl) (fun _ => .err) fun _ => .pureT N hr) ?_
  exact PRm.bind (Sim.want N _ _ _ _ hr) fun _ a r r' hr => .pure hr rfl
theorem Sim.list (N : Neut u u') {α : Type} {one one' : List T4 → PR α} (hone : Shr one) (ho : Sim u u' D one one') : Sim u u' D (listP one) (listP one') := Sim.of_shr N (Shr.list hone.le) fun x k => by
  unfold listP
  refine PRm.bind (Sim.want N _ _ _ _ (Qm.k (x :: k))) fun W a r r' hr => ?_
  have hdec : Dec (Go.Proofs.YtkbplcfehllbjaaGreatDoor.listStep one) := fun a l a' r e h => (Shr.listStep hone a l _ r e).2 h
  have hloop := Sim.loopN N (fun l => (Shr.listStep hone l).le) hdec (Sim.listStep N ho) ([] : List α)
  have hu : u ≠ [] := fun e => by have := N.l2; rw [e] at this; simp at this
  cases W with
  | true =>
    by_cases h : isP [41] r = true
    · rw [if_pos h]; exact (PRm.pureT (a := ([] : List α)) N hr).weak
    · rw [if_neg h]; exact (hloop true r r hr).weak
  | false =>
    obtain ⟨k1, rfl, rfl⟩ := hr
    cases k1 with
    | nil =>
      simp only [List.nil_append]
      intro b r2 e
      left
      by_cases h : isP [41] u = true
      · rw [if_pos h] at e; cases e; exact tail_lt hu
      · rw [if_neg h] at e
        exact (Shr.loop1 (fun a => Shr.listStep hone a) _ _ _ _ _ e).2 hu
    | cons y k1 =>
      exact PRm.ite (fun _ => Iff.rfl) (fun _ => .pure (Qm.k k1) rfl) fun _ => hloop false _ _ (Qm.k (y :: k1))
end
structure RecSim (u u' : List T4) (D : Prop) (R R' : Rec) : Prop where
  shr : RecShr R
  ex : Sim u u' D R.expr R'.expr
  un : Sim u u' D R.unary R'.unary
  st : Sim u u' D R.stmt R'.stmt
  ty : Sim u u' D R.typename R'.typename
section
variable {u u' : List T4} {D : Prop} {R R' : Rec}
theorem RecSim.pointerTo (N : Neut u u') (h : RecSim u u' D R R') (t : Ty) : Sim u u' D (pointerToP R t) (pointerToP R' t) := fun W l l' hl => by
  unfold pointerToP
  exact PRm.bind (Sim.list N h.shr.ty h.ty W l l' hl) fun _ a r r' hr => .pure hr rfl
theorem RecSim.typename (N : Neut u u') (h : RecSim u u' D R R') : Sim u u' D (typenameF R) (typenameF R') := fun W l l' hl => by
  unfold typenameF
  refine PRm.bind (Sim.base N W l l' hl) fun W t r r' hr => N.stars (F := fun s ts => if isP [40] ts = true then (wantP [42] ts.tail).bind fun _ r1 => (wantP [41] r1).bind fun _ r2 => pointerToP R s r2 else .ok s ts) (G := fun s ts => if isP [40] ts = true then (wantP [42] ts.tail).bind fun _ r1 => (wantP [41] r1).bind fun _ r2 => pointerToP R' s r2 else .ok s ts) (fun W t r r' hr => ?_) W r r' t hr
  exact N.iteP hr (by decide) (by decide) (PRm.bind (Sim.tail N (Sim.want N _) hr) fun _ _ r r' hr => PRm.bind (Sim.want N _ _ _ _ hr) fun _ _ r r' hr => h.pointerTo N _ _ r r' hr) (.pure hr rfl)
theorem RecSim.declared (N : Neut u u') (h : RecSim u u' D R R') (k : Int) (t : Ty) : Sim u u' D (declaredP R k t) (declaredP R' k t) := fun W l l' hl => by
  unfold declaredP
  refine N.iteP hl (by decide) (by decide) ?_ ?_
  · exact PRm.bind (Sim.tail N (Sim.want N _) hl) fun _ _ r r' hr => PRm.bind (Sim.name N _ _ _ hr) fun _ _ r r' hr => PRm.bind (Sim.sizes N _ _ _ hr) fun _ _ r r' hr => PRm.bind (Sim.want N _ _ _ _ hr) fun _ _ r r' hr => PRm.bind (h.pointerTo N _ _ r r' hr) fun _ _ r r' hr => .pure hr rfl
  · exact PRm.bind (Sim.name N _ _ _ hl) fun _ _ r r' hr => PRm.bind (Sim.sizes N _ _ _ hr) fun _ _ r r' hr => .pure hr rfl
theorem RecSim.decl (N : Neut u u') (h : RecSim u u' D R R') : Sim u u' D (declP R) (declP R') := fun W l l' hl => by
  unfold declP
  exact PRm.bind (Sim.base N W l l' hl) fun W t r r' hr => N.stars (F := declaredP R 13) (G := declaredP R' 13) (fun W t r r' hr => h.declared N 13 t W r r' hr) W r r' t hr
theorem RecSim.enclosed (N : Neut u u') (h : RecSim u u' D R R') : Sim u u' D (enclosedP R) (enclosedP R') := fun W l l' hl => by
  unfold enclosedP
  exact PRm.bind (Sim.want N _ _ _ _ hl) fun _ _ r r' hr => PRm.bind (h.ty _ r r' hr) fun _ _ r r' hr => PRm.bind (Sim.want N _ _ _ _ hr) fun _ _ r r' hr => .pure hr rfl
theorem RecSim.condition (N : Neut u u') (h : RecSim u u' D R R') : Sim u u' D (conditionP R) (conditionP R') := fun W l l' hl => by
  unfold conditionP
  exact PRm.bind (Sim.want N _ _ _ _ hl) fun _ _ r r' hr => PRm.bind (h.ex _ r r' hr) fun _ _ r r' hr => PRm.bind (Sim.want N _ _ _ _ hr) fun _ _ r r' hr => .pure hr rfl
theorem RecSim.term (N : Neut u u') (h : RecSim u u' D R R') : Sim u u' D (termP R) (termP R') := Sim.of_shr N (Shr.term h.shr) fun x k => by
  unfold termP
  refine PRm.ite (fun _ => Iff.rfl) (fun _ => .pure (Qm.k k) rfl) fun _ => PRm.ite (fun _ => Iff.rfl) (fun _ => .pure (Qm.k k) rfl) fun _ => ?_
  exact PRm.bind (Sim.want N _ _ _ _ (Qm.k (x :: k))) fun _ _ r r' hr => PRm.bind (h.ex _ r r' hr) fun _ _ r r' hr => PRm.bind (Sim.want N _ _ _ _ hr) fun _ _ r r' hr => .pure hr rfl
theorem RecSim.postStep (N : Neut u u') (h : RecSim u u' D R R') (n : Nd) : Sim u u' D (postStep R n) (postStep R' n) := fun W l l' hl => by
  unfold Go.Proofs.YtkbplcfehllbjaaGreatDoor.postStep
  refine N.iteP hl (by decide) (by decide) ?_ (N.iteP hl (by decide) (by decide) ?_ (N.iteP hl (by decide) (by decide) ?_ (N.iteP hl (by decide) (by decide) ?_ (.pure hl rfl))))
  · exact PRm.bind (Sim.tail N h.ex hl) fun _ _ r r' hr => PRm.bind (Sim.want N _ _ _ _ hr) fun _ _ r r' hr => .pure hr rfl
  · exact PRm.bind (Sim.tail N (Sim.name N) hl) fun _ _ r r' hr => .pure hr rfl
  · exact PRm.bind (Sim.tail N (Sim.name N) hl) fun _ _ r r' hr => .pure hr rfl
  · exact PRm.bind (Sim.list N h.shr.ex h.ex _ _ _ hl) fun _ _ r r' hr => .pure hr rfl
theorem post_dec (h : RecShr R) : Dec (postStep R) := fun n l a' r e hl => by
  have key : ∀ {p : List T4 → PR (Nd ⊕ Nd)}, Shr p → p l = .ok (.inl a') r → r.length < l.length := fun hp e => (hp l _ r e).2 hl
  unfold postStep at e
  split at e
  · exact key (Shr.tail (p := fun ts => (R.expr ts).bind fun m r1 => (wantP [93] r1).bind fun _ r2 => .ok (Sum.inl (Nd.of 6 [n, m])) r2) (ShrLe.bind h.ex.le fun _ => ShrLe.bind (Shr.want _).le fun _ => ShrLe.pure _)) e
  · split at e
    · exact key (Shr.tail (p := fun ts => (nameP ts).bind fun nm r => .ok (Sum.inl (Nd.mk 7 nm 0 Ty.none [n])) r) (ShrLe.bind Shr.name.le fun _ => ShrLe.pure _)) e
    · split at e
      · exact key (Shr.tail (p := fun ts => (nameP ts).bind fun nm r => .ok (Sum.inl (Nd.mk 8 nm 0 Ty.none [n])) r) (ShrLe.bind Shr.name.le fun _ => ShrLe.pure _)) e
      · split at e
        · exact key (p := fun ts => (listP R.expr ts).bind fun l r => .ok (Sum.inl (Nd.of 9 (n :: l))) r) (Shr.bind (Shr.list h.ex.le) fun _ => ShrLe.pure _) e
        · cases e
theorem RecSim.post (N : Neut u u') (h : RecSim u u' D R R') : Sim u u' D (postP R) (postP R') := fun W l l' hl => by
  unfold postP
  exact PRm.bind (h.term N W l l' hl) fun W n r r' hr => Sim.loopN N (ShrLe.postStep h.shr) (post_dec h.shr) (h.postStep N) n W r r' hr
theorem RecSim.unary (N : Neut u u') (h : RecSim u u' D R R') : Sim u u' D (unaryF R) (unaryF R') := Sim.of_shr N (Shr.unary h.shr) fun x k => by
  unfold unaryF
  refine PRm.ite (fun _ => Iff.rfl) (fun _ => ?_) fun _ => PRm.ite (fun _ => Iff.rfl) (fun _ => ?_) fun _ => PRm.ite (fun _ => ?_) (fun _ => ?_) fun _ => h.post N false _ _ (Qm.k (x :: k))
  · exact PRm.bind (h.un false _ _ (Qm.k k)) fun _ _ r r' hr => .pure hr rfl
  · exact PRm.bind (h.enclosed N false _ _ (Qm.k k)) fun _ _ r r' hr => .pure hr rfl
  · obtain ⟨h1, h2, _⟩ := Qm.hd N (Qm.k k)
    have h3 : isP [40] (x :: (k ++ u)) = isP [40] (x :: (k ++ u')) := rfl
    rw [h3, show (x :: (k ++ u)).tail = k ++ u from rfl, show (x :: (k ++ u')).tail = k ++ u' from rfl, h1, h2 _ (by decide) (by decide)]
  · exact PRm.bind (h.enclosed N false _ _ (Qm.k (x :: k))) fun _ _ r r' hr => PRm.bind (h.un _ r r' hr) fun _ _ r r' hr => .pure hr rfl
theorem bin_dec {bin : Nat → List T4 → PR Nd} (h : ∀ k, ShrLe (bin k)) (least : Nat) : Dec (binStep bin least) := fun n l a' r e hl => by
  unfold binStep at e
  split at e
  · cases e
  · exact ((Shr.tail (p := fun us => (bin (rowOf (hdT l).text + 1) us).bind fun m r => .ok (Sum.inl (Nd.mk 4 (hdT l).text 0 Ty.none [n, m])) r) (ShrLe.bind (h _) fun _ => ShrLe.pure _)) l _ r e).2 hl
theorem RecSim.bin (N : Neut u u') (h : RecSim u u' D R R') : ∀ (f least : Nat), Sim u u' D (binP R f least) (binP R' f least) := by
  intro f
  induction f with
  | zero => intro least W l l' hl; exact .err
  | succ f ih =>
    intro least W l l' hl
    unfold binP
    have hb : ∀ k, ShrLe (binP R f k) := fun k => (Shr.bin h.shr f k).le
    refine PRm.bind (h.un W l l' hl) fun W n r r' hr => Sim.loopN N (ShrLe.binStep hb least) (bin_dec hb least) (fun n => Sim.of_le (ShrLe.binStep hb least n) fun k => ?_) n W r r' hr
    have hrow := (Qm.hd N (Qm.k k)).2.2
    unfold binStep
    rw [← hrow]
    refine PRm.ite (fun _ => Iff.rfl) (fun _ => .pure (Qm.k k) rfl) fun _ => ?_
    cases k with
    | nil =>
      intro a r e
      left
      exact ((Shr.tail (p := fun us => (binP R f (rowOf (hdT u).text + 1) us).bind fun m r => .ok (Sum.inl (Nd.mk 4 (hdT u).text 0 Ty.none [n, m])) r) (ShrLe.bind (hb _) fun _ => ShrLe.pure _)) u a r e).2 (fun e => by have := N.l2; rw [e] at this; simp at this)
    | cons x k => exact PRm.bind (ih _ false _ _ (Qm.k k)) fun _ _ r r' hr => .pure hr rfl
theorem RecSim.expr (N : Neut u u') (h : RecSim u u' D R R') : Sim u u' D (exprF R) (exprF R') := fun W l l' hl => by
  unfold exprF
  exact PRm.bind (h.bin N 9 1 W l l' hl) fun W n r r' hr => N.iteP hr (by decide) (by decide) (PRm.bind (Sim.tail N h.ex hr) fun _ _ r r' hr => .pure hr rfl) (.pure hr rfl)
theorem block_dec (h : RecShr R) : Dec (blockStep R) := fun n l a' r e hl => by
  unfold blockStep at e
  split at e
  · cases e
  · exact ((Shr.bind (q := fun m r => .ok (Sum.inl (n ++ [m])) r) h.st fun _ => ShrLe.pure _) l _ r e).2 hl
theorem Shr.blockStep' (h : RecShr R) (l : List Nd) : Shr (blockStep R l) := by
  unfold Go.Proofs.YtkbplcfehllbjaaGreatDoor.blockStep
  exact Shr.ite (Shr.pureT _) (Shr.bind h.st fun _ => ShrLe.pure _)
theorem RecSim.block (N : Neut u u') (h : RecSim u u' D R R') : Sim u u' D (blockP R) (blockP R') := fun W l l' hl => by
  unfold blockP
  refine PRm.bind (Sim.want N _ _ _ _ hl) fun W _ r r' hr => PRm.bind (Sim.loopN N (ShrLe.blockStep h.shr) (block_dec h.shr) (fun n => Sim.of_shr N (Shr.blockStep' h.shr n) fun x k => ?_) [] W r r' hr) fun _ _ r r' hr => .pure hr rfl
  unfold blockStep
  exact PRm.ite (fun _ => Iff.rfl) (fun _ => .pure (Qm.k k) rfl) fun _ => PRm.bind (h.st false _ _ (Qm.k (x :: k))) fun _ _ r r' hr => .pure hr rfl
theorem RecSim.choice (N : Neut u u') (h : RecSim u u' D R R') : Sim u u' D (choiceP R) (choiceP R') := fun W l l' hl => by
  unfold choiceP
  exact PRm.bind (Sim.want N _ _ _ _ hl) fun _ _ r r' hr => PRm.bind (h.condition N _ r r' hr) fun _ _ r r' hr => PRm.bind (h.st _ r r' hr) fun _ _ r r' hr =>
    N.iteP hr (by decide) (by decide) (PRm.bind (Sim.tail N h.st hr) fun _ _ r r' hr => .pure hr rfl) (.pure hr rfl)
theorem RecSim.result (N : Neut u u') (h : RecSim u u' D R R') : Sim u u' D (resultP R) (resultP R') := fun W l l' hl => by
  unfold resultP
  refine PRm.bind (Sim.want N _ _ _ _ hl) fun W _ r r' hr => Sim.of_shr N (p := fun r => if isP [59] r = true then .ok (Nd.of 16 []) r.tail else (R.expr r).bind fun n r1 => (wantP [59] r1).bind fun _ r2 => .ok (Nd.of 16 [n]) r2) (p' := fun r => if isP [59] r = true then .ok (Nd.of 16 []) r.tail else (R'.expr r).bind fun n r1 => (wantP [59] r1).bind fun _ r2 => .ok (Nd.of 16 [n]) r2) ?_ (fun x k => ?_) W r r' hr
  · exact Shr.ite (Shr.pureT _) (Shr.bind h.shr.ex fun _ => ShrLe.bind (Shr.want _).le fun _ => ShrLe.pure _)
  · exact PRm.ite (fun _ => Iff.rfl) (fun _ => .pure (Qm.k k) rfl) fun _ => PRm.bind (h.ex false _ _ (Qm.k (x :: k))) fun _ _ r r' hr => PRm.bind (Sim.want N _ _ _ _ hr) fun _ _ r r' hr => .pure hr rfl
theorem RecSim.local' (N : Neut u u') (h : RecSim u u' D R R') : Sim u u' D (localP R) (localP R') := fun W l l' hl => by
  unfold localP
  exact PRm.bind (h.decl N W l l' hl) fun _ n r r' hr => N.iteP hr (by decide) (by decide) (PRm.bind (Sim.tail N h.ex hr) fun _ _ r r' hr => PRm.bind (Sim.want N _ _ _ _ hr) fun _ _ r r' hr => .pure hr rfl) (PRm.bind (Sim.want N _ _ _ _ hr) fun _ _ r r' hr => .pure hr rfl)
theorem Sim.leap (N : Neut u u') (k : Int) : Sim u u' D (leapP k) (leapP k) := fun W l l' hl => by
  unfold leapP
  exact PRm.bind (Sim.tail N (Sim.want N _) hl) fun _ _ r r' hr => .pure hr rfl
theorem RecSim.stmt (N : Neut u u') (h : RecSim u u' D R R') : Sim u u' D (stmtF R) (stmtF R') := Sim.of_shr N (Shr.stmt h.shr) fun x k => by
  have hq : Qm u u' false (x :: (k ++ u)) (x :: (k ++ u')) := Qm.k (x :: k)
  unfold stmtF
  refine PRm.ite (fun _ => Iff.rfl) (fun _ => h.block N _ _ _ hq) fun _ => PRm.ite (fun _ => Iff.rfl) (fun _ => .pure (Qm.k k) rfl) fun _ => PRm.ite (fun _ => Iff.rfl) (fun _ => h.choice N _ _ _ hq) fun _ =>
    PRm.ite (fun _ => Iff.rfl) (fun _ => ?_) fun _ => PRm.ite (fun _ => Iff.rfl) (fun _ => h.result N _ _ _ hq) fun _ => PRm.ite (fun _ => Iff.rfl) (fun _ => Sim.leap N 18 _ _ _ hq) fun _ => PRm.ite (fun _ => Iff.rfl) (fun _ => Sim.leap N 19 _ _ _ hq) fun _ =>
    PRm.ite (fun _ => Iff.rfl) (fun _ => h.local' N _ _ _ hq) fun _ => ?_
  · exact PRm.bind (h.condition N _ _ _ (Qm.k k)) fun _ _ r r' hr => PRm.bind (h.st _ r r' hr) fun _ _ r r' hr => .pure hr rfl
  · exact PRm.bind (h.ex _ _ _ hq) fun _ _ r r' hr => PRm.bind (Sim.want N _ _ _ _ hr) fun _ _ r r' hr => .pure hr rfl
/-- The same depth, and a lesser one. -/
theorem RecSim.same (N : Neut u u') : ∀ f, RecSim u u' D (recAt f) (recAt f)
  | 0 => ⟨RecShr.at 0, fun _ _ _ _ => .err, fun _ _ _ _ => .err, fun _ _ _ _ => .err, fun _ _ _ _ => .err⟩
  | f + 1 => have h := RecSim.same N f; ⟨RecShr.at _, h.expr N, h.unary N, h.stmt N, h.typename N⟩
theorem Sim.deep {α : Type} {p : List T4 → PR α} (hp : Suf p) (hd : D) : Sim u u' D p (fun ts => failP ts 4) := fun W l l' hq a r e => by
  have hs := hp l a r e
  cases W with
  | true =>
    left
    have h1 : l.length < u.length := hq
    have h2 := hs.length_le
    omega
  | false =>
    obtain ⟨k, rfl, rfl⟩ := hq
    by_cases h : r.length < u.length
    · exact .inl h
    · obtain ⟨k2, rfl⟩ := List.suffix_of_suffix_length_le (List.suffix_append k u) hs (by omega)
      exact .inr ⟨rfl, k2, rfl, .inr ⟨hd, _, rfl⟩⟩
structure RecSuf (R : Rec) : Prop where
  ex : Suf R.expr
  un : Suf R.unary
  st : Suf R.stmt
  ty : Suf R.typename
theorem RecSuf.at (f : Nat) : RecSuf (recAt f) := ⟨Suf.of fun L => (RecAlk.at (alike_suf L) f).ex, Suf.of fun L => (RecAlk.at (alike_suf L) f).un, Suf.of fun L => (RecAlk.at (alike_suf L) f).st, Suf.of fun L => (RecAlk.at (alike_suf L) f).ty⟩
theorem RecSim.less (N : Neut u u') (hD : D) : ∀ f f', f' ≤ f → RecSim u u' D (recAt f) (recAt f')
  | f, 0, _ => have h := RecSuf.at f; ⟨RecShr.at f, Sim.deep h.ex hD, Sim.deep h.un hD, Sim.deep h.st hD, Sim.deep h.ty hD⟩
  | f + 1, f' + 1, hf => have h := RecSim.less N hD f f' (by omega); ⟨RecShr.at _, h.expr N, h.unary N, h.stmt N, h.typename N⟩
end
end Go.Proofs.YtkbplcfehllbjaaGreatDoor
