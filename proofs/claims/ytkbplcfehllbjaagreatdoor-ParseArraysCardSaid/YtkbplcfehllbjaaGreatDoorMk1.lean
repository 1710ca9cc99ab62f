/- Merged: Q0, Q1, Q2, Q3, Q4, Q5. -/
import Derived.OwnWalk
import Derived.Laws.OwnMore
import Derived.Below
import Derived.OneCell
import Derived.Test.YtkbplcfehllbjaaGreatDoorChecked
import Derived.WalkKit
import Derived.WalkSpells
import Derived.WalkLawsBesides
import Derived.Outline
import Derived.RegionTactic
import Derived.BigRegion
import Derived.WalkSmall
import Derived.Lib.Hide
/- Plain: tokens, types, nodes; what a parser answers. -/
namespace Go.Proofs.YtkbplcfehllbjaaGreatDoor
structure T4 where
  kind : Int
  pos : Nat
  text : List UInt8
  val : Int
inductive Ty where
  | mk (kind n : Int) (name : List UInt8) (of : List Ty)
inductive Nd where
  | mk (kind : Int) (text : List UInt8) (n : Int) (t : Ty) (kids : List Nd)
def Ty.kind : Ty → Int | .mk k _ _ _ => k
def Ty.num : Ty → Int | .mk _ n _ _ => n
def Ty.name : Ty → List UInt8 | .mk _ _ nm _ => nm
def Ty.of : Ty → List Ty | .mk _ _ _ l => l
def Nd.kind : Nd → Int | .mk k _ _ _ _ => k
def Nd.text : Nd → List UInt8 | .mk _ t _ _ _ => t
def Nd.num : Nd → Int | .mk _ _ n _ _ => n
def Nd.typ : Nd → Ty | .mk _ _ _ t _ => t
def Nd.kids : Nd → List Nd | .mk _ _ _ _ l => l
def Ty.none : Ty := .mk 0 0 [] []
def Ty.ptr (t : Ty) : Ty := .mk 5 0 [] [t]
def Ty.arr (n : Int) (t : Ty) : Ty := .mk 6 n [] [t]
def Ty.fn (l : List Ty) : Ty := .mk 9 0 [] l
/-- A node of its kids alone. -/
def Nd.of (k : Int) (l : List Nd) : Nd := .mk k [] 0 Ty.none l
inductive PR (α : Type) where
  | ok (a : α) (rest : List T4)
  | err (at' : Nat) (e : Int)
def PR.bind {α β : Type} (r : PR α) (f : α → List T4 → PR β) : PR β :=
  match r with
  | .ok a rest => f a rest
  | .err p e => .err p e
@[simp] theorem PR.bind_ok {α β : Type} (a : α) (r : List T4) (f : α → List T4 → PR β) : (PR.ok a r).bind f = f a r := rfl
@[simp] theorem PR.bind_err {α β : Type} (p : Nat) (e : Int) (f : α → List T4 → PR β) : (PR.err p e).bind f = .err p e := rfl
def endT : T4 := ⟨0, 0, [], 0⟩
def hdT (ts : List T4) : T4 := ts.headD endT
def failP {α : Type} (ts : List T4) (e : Int) : PR α := .err (hdT ts).pos e
def isP (s : List UInt8) (ts : List T4) : Bool := (hdT ts).text == s
def wantP (s : List UInt8) (ts : List T4) : PR Unit := if isP s ts = true then .ok () ts.tail else failP ts 2
def kindP (k : Int) (ts : List T4) : PR T4 := if (hdT ts).kind = k then .ok (hdT ts) ts.tail else failP ts 2
def nameP (ts : List T4) : PR (List UInt8) := (kindP 1 ts).bind fun t r => .ok t.text r
/-- A loop: a round goes on with something, or ends. -/
def loopP {α β : Type} (step : α → List T4 → PR (α ⊕ β)) : Nat → α → List T4 → PR β
  | 0, _, _ => .err 0 0
  | n + 1, a, ts => match step a ts with
    | .err p e => .err p e
    | .ok (.inr b) r => .ok b r
    | .ok (.inl a') r => loopP step n a' r
end Go.Proofs.YtkbplcfehllbjaaGreatDoor
/- Plain: the parser, as functions on lists of tokens. -/
namespace Go.Proofs.YtkbplcfehllbjaaGreatDoor
/-- the kinds of the types, by their keywords: void char int long struct union. -/
def typeKind (s : List UInt8) : Option Int :=
  if s = [118, 111, 105, 100] then some 1 else if s = [99, 104, 97, 114] then some 2 else if s = [105, 110, 116] then some 3 else if s = [108, 111, 110, 103] then some 4
  else if s = [115, 116, 114, 117, 99, 116] then some 7 else if s = [117, 110, 105, 111, 110] then some 8 else none
def baseP (ts : List T4) : PR Ty :=
  match typeKind (hdT ts).text with
  | none => failP ts 2
  | some k => if k = 7 ∨ k = 8 then (nameP ts.tail).bind fun nm r => .ok (.mk k 0 nm []) r else .ok (.mk k 0 [] []) ts.tail
def starsP : List T4 → Ty → Ty × List T4
  | [], t => (t, [])
  | a :: r, t => if a.text = [42] then starsP r t.ptr else (t, a :: r)
def sizesP : List T4 → PR (List Int)
  | a :: b :: r => if a.text = [91] then
      (if b.kind = 3 ∧ (b.val = 0 ∨ 4096 < b.val) then .err b.pos 5 else if b.kind = 3 then
        (match r with
        | c :: r' => if c.text = [93] then (sizesP r').bind fun l r'' => .ok (b.val :: l) r'' else .err c.pos 2
        | [] => .err 0 2)
      else .err b.pos 2)
    else .ok [] (a :: b :: r)
  | ts => .ok [] ts
def arraysT (sizes : List Int) (t : Ty) : Ty := sizes.foldr Ty.arr t
def listStep {α : Type} (one : List T4 → PR α) (l : List α) (ts : List T4) : PR (List α ⊕ List α) :=
  (one ts).bind fun a r =>
    if isP [44] r = true then (if (l ++ [a]).length = 6 then failP r 5 else .ok (.inl (l ++ [a])) r.tail)
    else (wantP [41] r).bind fun _ r' => .ok (.inr (l ++ [a])) r'
def listP {α : Type} (one : List T4 → PR α) (ts : List T4) : PR (List α) :=
  (wantP [40] ts).bind fun _ r => if isP [41] r = true then .ok [] r.tail else loopP (listStep one) (r.length + 1) [] r
structure Rec where
  expr : List T4 → PR Nd
  unary : List T4 → PR Nd
  stmt : List T4 → PR Nd
  typename : List T4 → PR Ty
def pointerToP (R : Rec) (t : Ty) (ts : List T4) : PR Ty := (listP R.typename ts).bind fun l r => .ok (Ty.ptr (Ty.fn (t :: l))) r
def typenameF (R : Rec) (ts : List T4) : PR Ty :=
  (baseP ts).bind fun t r =>
    let s := starsP r t
    if isP [40] s.2 = true then (wantP [42] s.2.tail).bind fun _ r1 => (wantP [41] r1).bind fun _ r2 => pointerToP R s.1 r2
    else .ok s.1 s.2
def declaredP (R : Rec) (kind : Int) (t : Ty) (ts : List T4) : PR Nd :=
  if isP [40] ts = true then
    (wantP [42] ts.tail).bind fun _ r1 => (nameP r1).bind fun nm r2 => (sizesP r2).bind fun sz r3 => (wantP [41] r3).bind fun _ r4 =>
      (pointerToP R t r4).bind fun u r5 => .ok (.mk kind nm 0 (arraysT sz u) []) r5
  else (nameP ts).bind fun nm r1 => (sizesP r1).bind fun sz r2 => .ok (.mk kind nm 0 (arraysT sz t) []) r2
def declP (R : Rec) (ts : List T4) : PR Nd :=
  (baseP ts).bind fun t r => declaredP R 13 (starsP r t).1 (starsP r t).2
def enclosedP (R : Rec) (ts : List T4) : PR Ty :=
  (wantP [40] ts).bind fun _ r1 => (R.typename r1).bind fun t r2 => (wantP [41] r2).bind fun _ r3 => .ok t r3
def termP (R : Rec) (ts : List T4) : PR Nd :=
  if (hdT ts).kind = 1 then .ok (.mk 2 (hdT ts).text 0 Ty.none []) ts.tail
  else if (hdT ts).kind = 3 then .ok (.mk 1 [] (hdT ts).val Ty.none []) ts.tail
  else (wantP [40] ts).bind fun _ r1 => (R.expr r1).bind fun n r2 => (wantP [41] r2).bind fun _ r3 => .ok n r3
def postStep (R : Rec) (n : Nd) (ts : List T4) : PR (Nd ⊕ Nd) :=
  if isP [91] ts = true then (R.expr ts.tail).bind fun m r1 => (wantP [93] r1).bind fun _ r2 => .ok (.inl (Nd.of 6 [n, m])) r2
  else if isP [46] ts = true then (nameP ts.tail).bind fun nm r => .ok (.inl (.mk 7 nm 0 Ty.none [n])) r
  else if isP [45, 62] ts = true then (nameP ts.tail).bind fun nm r => .ok (.inl (.mk 8 nm 0 Ty.none [n])) r
  else if isP [40] ts = true then (listP R.expr ts).bind fun l r => .ok (.inl (Nd.of 9 (n :: l))) r
  else .ok (.inr n) ts
def postP (R : Rec) (ts : List T4) : PR Nd := (termP R ts).bind fun n r => loopP (postStep R) (r.length + 1) n r
def isUn (s : List UInt8) : Bool := s == [45] || s == [33] || s == [126] || s == [42] || s == [38]
def unaryF (R : Rec) (ts : List T4) : PR Nd :=
  if isUn (hdT ts).text = true then (R.unary ts.tail).bind fun n r => .ok (.mk 3 (hdT ts).text 0 Ty.none [n]) r
  else if isP [115, 105, 122, 101, 111, 102] ts = true then (enclosedP R ts.tail).bind fun t r => .ok (.mk 11 [] 0 t []) r
  else if isP [40] ts = true ∧ (hdT ts.tail).kind = 2 ∧ isP [115, 105, 122, 101, 111, 102] ts.tail = false then
    (enclosedP R ts).bind fun t r1 => (R.unary r1).bind fun n r2 => .ok (.mk 10 [] 0 t [n]) r2
  else postP R ts
def rowOf (s : List UInt8) : Nat :=
  if s = [124] then 1 else if s = [94] then 2 else if s = [38] then 3 else if s = [61, 61] ∨ s = [33, 61] then 4
  else if s = [60] ∨ s = [60, 61] ∨ s = [62] ∨ s = [62, 61] then 5 else if s = [60, 60] ∨ s = [62, 62] then 6
  else if s = [43] ∨ s = [45] then 7 else if s = [42] ∨ s = [47] ∨ s = [37] then 8 else 0
def binStep (bin : Nat → List T4 → PR Nd) (least : Nat) (n : Nd) (ts : List T4) : PR (Nd ⊕ Nd) :=
  if rowOf (hdT ts).text < least then .ok (.inr n) ts
  else (bin (rowOf (hdT ts).text + 1) ts.tail).bind fun m r => .ok (.inl (.mk 4 (hdT ts).text 0 Ty.none [n, m])) r
def binP (R : Rec) : Nat → Nat → List T4 → PR Nd
  | 0, _, _ => .err 0 0
  | f + 1, least, ts => (R.unary ts).bind fun n r => loopP (binStep (binP R f) least) (r.length + 1) n r
def exprF (R : Rec) (ts : List T4) : PR Nd :=
  (binP R 9 1 ts).bind fun n r => if isP [61] r = true then (R.expr r.tail).bind fun m r2 => .ok (Nd.of 5 [n, m]) r2 else .ok n r
def conditionP (R : Rec) (ts : List T4) : PR Nd := (wantP [40] ts).bind fun _ r1 => (R.expr r1).bind fun n r2 => (wantP [41] r2).bind fun _ r3 => .ok n r3
def blockStep (R : Rec) (l : List Nd) (ts : List T4) : PR (List Nd ⊕ List Nd) :=
  if isP [125] ts = true then .ok (.inr l) ts.tail else (R.stmt ts).bind fun n r => .ok (.inl (l ++ [n])) r
def blockP (R : Rec) (ts : List T4) : PR Nd := (wantP [123] ts).bind fun _ r => (loopP (blockStep R) (r.length + 1) [] r).bind fun l r2 => .ok (Nd.of 17 l) r2
def choiceP (R : Rec) (ts : List T4) : PR Nd :=
  (wantP [105, 102] ts).bind fun _ r0 => (conditionP R r0).bind fun c r1 => (R.stmt r1).bind fun a r2 =>
    if isP [101, 108, 115, 101] r2 = true then (R.stmt r2.tail).bind fun b r3 => .ok (Nd.of 14 [c, a, b]) r3 else .ok (Nd.of 14 [c, a]) r2
def resultP (R : Rec) (ts : List T4) : PR Nd :=
  (wantP [114, 101, 116, 117, 114, 110] ts).bind fun _ r => if isP [59] r = true then .ok (Nd.of 16 []) r.tail
    else (R.expr r).bind fun n r1 => (wantP [59] r1).bind fun _ r2 => .ok (Nd.of 16 [n]) r2
def leapP (kind : Int) (ts : List T4) : PR Nd := (wantP [59] ts.tail).bind fun _ r => .ok (Nd.of kind []) r
def setKids (n : Nd) (l : List Nd) : Nd := match n with | .mk k t m ty _ => .mk k t m ty l
def localP (R : Rec) (ts : List T4) : PR Nd :=
  (declP R ts).bind fun n r => if isP [61] r = true then (R.expr r.tail).bind fun m r1 => (wantP [59] r1).bind fun _ r2 => .ok (setKids n [m]) r2
    else (wantP [59] r).bind fun _ r1 => .ok n r1
def stmtF (R : Rec) (ts : List T4) : PR Nd :=
  if isP [123] ts = true then blockP R ts
  else if isP [59] ts = true then .ok (Nd.of 17 []) ts.tail
  else if isP [105, 102] ts = true then choiceP R ts
  else if isP [119, 104, 105, 108, 101] ts = true then (conditionP R ts.tail).bind fun c r1 => (R.stmt r1).bind fun a r2 => .ok (Nd.of 15 [c, a]) r2
  else if isP [114, 101, 116, 117, 114, 110] ts = true then resultP R ts
  else if isP [98, 114, 101, 97, 107] ts = true then leapP 18 ts
  else if isP [99, 111, 110, 116, 105, 110, 117, 101] ts = true then leapP 19 ts
  else if (typeKind (hdT ts).text).isSome = true then localP R ts
  else (R.expr ts).bind fun n r => (wantP [59] r).bind fun _ r1 => .ok (Nd.of 12 [n]) r1
def recAt : Nat → Rec
  | 0 => ⟨fun ts => failP ts 4, fun ts => failP ts 4, fun ts => failP ts 4, fun ts => failP ts 4⟩
  | f + 1 => ⟨exprF (recAt f), unaryF (recAt f), stmtF (recAt f), typenameF (recAt f)⟩
def recordStep (R : Rec) (l : List Nd) (ts : List T4) : PR (List Nd ⊕ List Nd) :=
  if isP [125] ts = true then .ok (.inr l) ts.tail else (declP R ts).bind fun n r => (wantP [59] r).bind fun _ r1 => .ok (.inl (l ++ [n])) r1
def recordP (R : Rec) (t : Ty) (ts : List T4) : PR Nd :=
  (wantP [123] ts).bind fun _ r => (loopP (recordStep R) (r.length + 1) [] r).bind fun l r1 => (wantP [59] r1).bind fun _ r2 => .ok (.mk 20 [] 0 t l) r2
def functionP (R R1 : Rec) (t : Ty) (ts : List T4) : PR Nd :=
  (nameP ts).bind fun nm r => (listP (declP R) r).bind fun ps r1 => (blockP R1 r1).bind fun b r2 => .ok (.mk 22 nm 0 (Ty.fn (t :: ps.map Nd.typ)) (ps ++ [b])) r2
def itemP (R R1 : Rec) (ts : List T4) : PR Nd :=
  (baseP ts).bind fun t r =>
    if t.name ≠ [] ∧ isP [123] r = true then recordP R t r
    else
      let s := starsP r t
      if (hdT s.2).kind = 1 ∧ isP [40] s.2.tail = true then functionP R R1 s.1 s.2
      else (declaredP R 21 s.1 s.2).bind fun n r1 => (wantP [59] r1).bind fun _ r2 => .ok n r2
def unitStep (R R1 : Rec) (l : List Nd) (ts : List T4) : PR (List Nd ⊕ List Nd) :=
  if (hdT ts).kind = 0 then .ok (.inr l) ts else (itemP R R1 ts).bind fun n r => .ok (.inl (l ++ [n])) r
def unitP (ts : List T4) : PR Nd := (loopP (unitStep (recAt 60) (recAt 59)) (ts.length + 1) [] ts).bind fun l r => .ok (Nd.of 23 l) r
mutual
def depthN : Nd → Nat
  | .mk _ _ _ _ l => 1 + depthL l
def depthL : List Nd → Nat
  | [] => 0
  | n :: l => max (depthN n) (depthL l)
end
end Go.Proofs.YtkbplcfehllbjaaGreatDoor
/- What a type, a node look like in memory (S: in which blocks); the parser's own block; what a call of a parser's function gives. -/
namespace Go.Proofs.YtkbplcfehllbjaaGreatDoor
open Go.RowKit
mutual
def RepT (w : World) (S : Nat → Prop) : Ty → List Value → Prop
  | .mk k n nm of, cs => ∃ v, cs = [.int .i64 k, .int .i64 n, .string ⟨nm.toArray⟩, v] ∧ ∃ cells, w.ownsRow 0 25 4 v of.length cells ∧ (∀ g, v.ownBlock = some g → S g) ∧ RepTl w S of cells
def RepTl (w : World) (S : Nat → Prop) : List Ty → List Value → Prop
  | [], cs => cs = []
  | t :: l, cs => ∃ c1 c2, cs = c1 ++ c2 ∧ RepT w S t c1 ∧ RepTl w S l c2
end
/-- A slice of types. -/
def RepOf (w : World) (S : Nat → Prop) (v : Value) (l : List Ty) : Prop :=
  ∃ cells, w.ownsRow 0 25 4 v l.length cells ∧ (∀ g, v.ownBlock = some g → S g) ∧ RepTl w S l cells
mutual
def RepN (w : World) (S : Nat → Prop) : Nd → List Value → Prop
  | .mk k tx n t kids, cs => ∃ ofv kv, cs = [.int .i64 k, .string ⟨tx.toArray⟩, .int .i64 n, .int .i64 t.kind, .int .i64 t.num, .string ⟨t.name.toArray⟩, ofv, kv] ∧ RepOf w S ofv t.of ∧
      ∃ cells, w.ownsRow 0 28 8 kv kids.length cells ∧ (∀ g, kv.ownBlock = some g → S g) ∧ RepNl w S kids cells
def RepNl (w : World) (S : Nat → Prop) : List Nd → List Value → Prop
  | [], cs => cs = []
  | t :: l, cs => ∃ c1 c2, cs = c1 ++ c2 ∧ RepN w S t c1 ∧ RepNl w S l c2
end
/-- A slice of nodes. -/
def RepK (w : World) (S : Nat → Prop) (v : Value) (l : List Nd) : Prop :=
  ∃ cells, w.ownsRow 0 28 8 v l.length cells ∧ (∀ g, v.ownBlock = some g → S g) ∧ RepNl w S l cells
/-- w' has w's blocks that S names. -/
def SameOn (S : Nat → Prop) (w w' : World) : Prop := ∀ g, S g → g < w.heap.size → w'.heap[g]? = w.heap[g]?
theorem ownsRow_same {w w' : World} {base e size n : Nat} {v : Value} {xs : List Value} (h : w.ownsRow base e size v n xs) (hs : ∀ g, v.ownBlock = some g → w'.heap[g]? = w.heap[g]?) : w'.ownsRow base e size v n xs := by
  refine ⟨h.1, ?_⟩
  rcases h.2 with hn | ⟨g, cap, cur, hv, hg, hh, r⟩
  · exact .inl hn
  · exact .inr ⟨g, cap, cur, hv, hg, by rw [hs g (by rw [hv]; rfl)]; exact hh, r⟩
mutual
theorem RepT.mono {w w' : World} {S S' : Nat → Prop} (hS : ∀ g, S g → g < w.heap.size → S' g) (hw : SameOn S w w') : ∀ (t : Ty) (cs : List Value), RepT w S t cs → RepT w' S' t cs
  | .mk _ _ _ of, _, ⟨v, hc, cells, ho, hb, hl⟩ =>
    ⟨v, hc, cells, ownsRow_same ho (fun g hg => hw g (hb g hg) (ho.lt g hg).2), fun g hg => hS g (hb g hg) (ho.lt g hg).2, RepTl.mono hS hw of cells hl⟩
theorem RepTl.mono {w w' : World} {S S' : Nat → Prop} (hS : ∀ g, S g → g < w.heap.size → S' g) (hw : SameOn S w w') : ∀ (l : List Ty) (cs : List Value), RepTl w S l cs → RepTl w' S' l cs
  | [], _, h => h
  | t :: l, _, ⟨c1, c2, hc, h1, h2⟩ => ⟨c1, c2, hc, RepT.mono hS hw t c1 h1, RepTl.mono hS hw l c2 h2⟩
end
theorem RepOf.mono {w w' : World} {S S' : Nat → Prop} {v : Value} {l : List Ty} (h : RepOf w S v l) (hS : ∀ g, S g → g < w.heap.size → S' g) (hw : SameOn S w w') : RepOf w' S' v l := by
  obtain ⟨cells, ho, hb, hl⟩ := h
  exact ⟨cells, ownsRow_same ho (fun g hg => hw g (hb g hg) (ho.lt g hg).2), fun g hg => hS g (hb g hg) (ho.lt g hg).2, RepTl.mono hS hw l cells hl⟩
mutual
theorem RepN.mono {w w' : World} {S S' : Nat → Prop} (hS : ∀ g, S g → g < w.heap.size → S' g) (hw : SameOn S w w') : ∀ (t : Nd) (cs : List Value), RepN w S t cs → RepN w' S' t cs
  | .mk _ _ _ _ kids, _, ⟨ofv, kv, hc, hof, cells, ho, hb, hl⟩ =>
    ⟨ofv, kv, hc, hof.mono hS hw, cells, ownsRow_same ho (fun g hg => hw g (hb g hg) (ho.lt g hg).2), fun g hg => hS g (hb g hg) (ho.lt g hg).2, RepNl.mono hS hw kids cells hl⟩
theorem RepNl.mono {w w' : World} {S S' : Nat → Prop} (hS : ∀ g, S g → g < w.heap.size → S' g) (hw : SameOn S w w') : ∀ (l : List Nd) (cs : List Value), RepNl w S l cs → RepNl w' S' l cs
  | [], _, h => h
  | t :: l, _, ⟨c1, c2, hc, h1, h2⟩ => ⟨c1, c2, hc, RepN.mono hS hw t c1 h1, RepNl.mono hS hw l c2 h2⟩
end
theorem RepK.mono {w w' : World} {S S' : Nat → Prop} {v : Value} {l : List Nd} (h : RepK w S v l) (hS : ∀ g, S g → g < w.heap.size → S' g) (hw : SameOn S w w') : RepK w' S' v l := by
  obtain ⟨cells, ho, hb, hl⟩ := h
  exact ⟨cells, ownsRow_same ho (fun g hg => hw g (hb g hg) (ho.lt g hg).2), fun g hg => hS g (hb g hg) (ho.lt g hg).2, RepNl.mono hS hw l cells hl⟩
theorem RepOf.nil (w : World) (S : Nat → Prop) : RepOf w S (.slice none 0 0) [] := ⟨[], World.ownsRow_nil _ _ _ _, fun g hg => (by cases hg), rfl⟩
theorem RepK.nil (w : World) (S : Nat → Prop) : RepK w S (.slice none 0 0) [] := ⟨[], World.ownsRow_nil _ _ _ _, fun g hg => (by cases hg), rfl⟩
theorem RepTl.snoc {w : World} {S : Nat → Prop} : ∀ (l : List Ty) (t : Ty) (c1 c2 : List Value), RepTl w S l c1 → RepT w S t c2 → RepTl w S (l ++ [t]) (c1 ++ c2)
  | [], t, c1, c2, h1, h2 => by
    have : c1 = [] := h1
    subst this
    exact ⟨c2, [], by simp, h2, rfl⟩
  | a :: l, t, c1, c2, ⟨d1, d2, hd, g1, g2⟩, h2 => ⟨d1, d2 ++ c2, by rw [hd, List.append_assoc], g1, RepTl.snoc l t d2 c2 g2 h2⟩
theorem RepNl.snoc {w : World} {S : Nat → Prop} : ∀ (l : List Nd) (t : Nd) (c1 c2 : List Value), RepNl w S l c1 → RepN w S t c2 → RepNl w S (l ++ [t]) (c1 ++ c2)
  | [], t, c1, c2, h1, h2 => by
    have : c1 = [] := h1
    subst this
    exact ⟨c2, [], by simp, h2, rfl⟩
  | a :: l, t, c1, c2, ⟨d1, d2, hd, g1, g2⟩, h2 => ⟨d1, d2 ++ c2, by rw [hd, List.append_assoc], g1, RepNl.snoc l t d2 c2 g2 h2⟩
def tyC (t : Ty) (ofv : Value) : List Value := [.int .i64 t.kind, .int .i64 t.num, .string ⟨t.name.toArray⟩, ofv]
def tyV (t : Ty) (ofv : Value) : Value := .agg #[.int .i64 t.kind, .int .i64 t.num, .string ⟨t.name.toArray⟩, ofv]
def ndV (n : Nd) (ofv kv : Value) : Value := .agg #[.int .i64 n.kind, .string ⟨n.text.toArray⟩, .int .i64 n.num, .int .i64 n.typ.kind, .int .i64 n.typ.num, .string ⟨n.typ.name.toArray⟩, ofv, kv]
def ndC (n : Nd) (ofv kv : Value) : List Value := [.int .i64 n.kind, .string ⟨n.text.toArray⟩, .int .i64 n.num, .int .i64 n.typ.kind, .int .i64 n.typ.num, .string ⟨n.typ.name.toArray⟩, ofv, kv]
theorem RepT.of {w : World} {S : Nat → Prop} {t : Ty} {ofv : Value} (h : RepOf w S ofv t.of) : RepT w S t (tyC t ofv) := by
  cases t; exact ⟨ofv, rfl, h⟩
theorem RepN.of {w : World} {S : Nat → Prop} {n : Nd} {ofv kv : Value} (h : RepOf w S ofv n.typ.of) (hk : RepK w S kv n.kids) : RepN w S n (ndC n ofv kv) := by
  cases n; exact ⟨ofv, kv, rfl, h, hk⟩
/-- The cells of tokens. -/
def tkC (t : T4) : List Value := [.int .i64 t.kind, .int .i64 t.pos, .string ⟨t.text.toArray⟩, .int .i64 t.val]
def tksC (l : List T4) : List Value := l.flatMap tkC
def tkV (t : T4) : Value := .agg #[.int .i64 t.kind, .int .i64 t.pos, .string ⟨t.text.toArray⟩, .int .i64 t.val]
theorem tksC_get (l : List T4) : ∀ (k : Nat) (t : T4), l[k]? = some t → (tksC l)[k * 4]? = some (.int .i64 t.kind) ∧ (tksC l)[k * 4 + 1]? = some (.int .i64 t.pos) ∧ (tksC l)[k * 4 + 2]? = some (.string ⟨t.text.toArray⟩) ∧ (tksC l)[k * 4 + 3]? = some (.int .i64 t.val) := by
  induction l with
  | nil => intro k t h; simp at h
  | cons a l ih =>
    intro k t h
    have e : tksC (a :: l) = tkC a ++ tksC l := by simp [tksC]
    have hl : (tkC a).length = 4 := rfl
    cases k with
    | zero =>
      simp only [List.getElem?_cons_zero, Option.some.injEq] at h
      subst h
      rw [e]; simp [tkC]
    | succ k =>
      have := ih k t (by simpa using h)
      rw [e]
      rw [List.getElem?_append_right (by rw [hl]; omega), List.getElem?_append_right (by rw [hl]; omega), List.getElem?_append_right (by rw [hl]; omega), List.getElem?_append_right (by rw [hl]; omega), hl]
      rw [show (k + 1) * 4 - 4 = k * 4 by omega, show (k + 1) * 4 + 1 - 4 = k * 4 + 1 by omega, show (k + 1) * 4 + 2 - 4 = k * 4 + 2 by omega, show (k + 1) * 4 + 3 - 4 = k * 4 + 3 by omega]
      exact this
end Go.Proofs.YtkbplcfehllbjaaGreatDoor
/- The parser's own block; what a call of a parser's function gives; token. -/
namespace Go.Proofs.YtkbplcfehllbjaaGreatDoor
open Go.RowKit
structure Ctx where
  bp : Nat
  bt : Nat
  cap : Nat
  bm : Nat
  toks : List T4
def typesV (s : ByteArray) : Value := .tuple #[.int .i64 ((typeKind s.data.toList).getD 0), .bool (typeKind s.data.toList).isSome]
def Ctx.p (C : Ctx) : Value := .pointer (some ⟨C.bp, 0, none⟩)
structure Pr (C : Ctx) (w : World) (i d : Nat) : Prop where
  blk : w.heap[C.bp]? = some (.cells #[.slice (some ⟨C.bt, 0, none⟩) C.toks.length C.cap, .int .i64 i, .int .i64 d, .map (some C.bm)] 70 (0, 0))
  tok : ∀ j u, (tksC C.toks)[j]? = some u → w.cell? ⟨C.bt, j, none⟩ = some u
  map : ∃ o, w.heap[C.bm]? = some o ∧ ∀ (w2 : World) (s : ByteArray), w2.heap[C.bm]? = some o → (Instr.lookup 68 (.map (some C.bm)) (.string s) true).run Tryz.prog w2 = .ok (typesV s) w2
  lt : i < C.toks.length
  ne1 : C.bt ≠ C.bp
  ne2 : C.bm ≠ C.bp
  fin : ∀ (j : Nat) (t : T4), C.toks[j]? = some t → (t.text ≠ [] ∨ t.kind ≠ 0) → j + 1 < C.toks.length
  len : C.toks.length ≤ 20001
  dle : d ≤ 60
theorem cells4_of (w : World) (b : Nat) (v0 v1 v2 v3 : Value) (t : TypeId) (h : w.heap[b]? = some (.cells #[v0, v1, v2, v3] t (0, 0))) :
    w.cell? ⟨b, 0, none⟩ = some v0 ∧ w.cell? ⟨b, 1, none⟩ = some v1 ∧ w.cell? ⟨b, 2, none⟩ = some v2 ∧ w.cell? ⟨b, 3, none⟩ = some v3 ∧
    w.frozen? ⟨b, 0, none⟩ = false ∧ w.frozen? ⟨b, 1, none⟩ = false ∧ w.frozen? ⟨b, 2, none⟩ = false ∧ w.frozen? ⟨b, 3, none⟩ = false := by
  have hc := fun j => cell_of_row w b j _ _ _ h
  refine ⟨?_, ?_, ?_, ?_, ?_, ?_, ?_, ?_⟩
  · rw [hc]; rfl
  · rw [hc]; rfl
  · rw [hc]; rfl
  · rw [hc]; rfl
  all_goals simp [World.frozen?, h]
theorem grownBy_refl (w : World) (r : Option Nat) : w.grownBy w r := ⟨rfl, rfl, rfl, Nat.le_refl _, fun _ _ _ => rfl⟩
theorem grownBy_trans {a b c : World} {r : Option Nat} (h : a.grownBy b r) (k : b.grownBy c r) : a.grownBy c r :=
  ⟨k.os.trans h.os, k.tape.trans h.tape, k.output.trans h.output, Nat.le_trans h.size k.size, fun i hi hn => (k.block i (Nat.lt_of_lt_of_le hi h.size) hn).trans (h.block i hi hn)⟩
theorem grownBy_some {a b : World} (h : a.grownBy b none) (r : Option Nat) : a.grownBy b r :=
  ⟨h.os, h.tape, h.output, h.size, fun i hi _ => h.block i hi (by simp)⟩
theorem grownBy_below {a b : World} {B : Nat} {r : Nat} (h : a.grownBy b (some r)) (hr : B ≤ r) (hB : B ≤ a.heap.size) : Below B a b :=
  ⟨h.os, h.tape, h.output, h.size, fun k hk => h.block k (by omega) (by simp; omega)⟩
theorem gr_alloc {a b : World} {r : Option Nat} (h : a.grownBy b r) (o : Obj) : a.grownBy (b.alloc o) r :=
  ⟨h.os, h.tape, h.output, Nat.le_trans h.size (by simp), fun k hk hn => (Below.heap_alloc _ _ _ (Nat.lt_of_lt_of_le hk h.size)).trans (h.block k hk hn)⟩
theorem _root_.Go.World.grownBy.gr_drew {a b : World} {r : Option Nat} (h : a.grownBy b r) : a.grownBy b.drew r := ⟨h.os, h.tape, h.output, h.size, h.block⟩
theorem _root_.Go.World.grownBy.gr_set {a b : World} {r : Option Nat} (h : a.grownBy b r) {p : Addr} (hp : a.heap.size ≤ p.block) (v : Value) : a.grownBy (b.setCell p v) r :=
  ⟨h.os, h.tape, h.output, by rw [show (b.setCell p v).heap.size = b.heap.size by simp [World.setCell]]; exact h.size, fun k hk hn => (Below.heap_setCell _ _ _ _ (by omega)).trans (h.block k hk hn)⟩
theorem lt_of_heap {w : World} {b : Nat} {o : Obj} (h : w.heap[b]? = some o) : b < w.heap.size := (Array.getElem?_eq_some_iff.1 h).1
/-- The parser's state stands while other blocks are made. -/
theorem Pr.grown {C : Ctx} {w w' : World} {i d : Nat} (h : Pr C w i d) (g : w.grownBy w' none) : Pr C w' i d := by
  obtain ⟨o, ho, hl⟩ := h.map
  refine ⟨by rw [g.block _ (lt_of_heap h.blk) (by simp)]; exact h.blk, fun j u hu => ?_, ⟨o, by rw [g.block _ (lt_of_heap ho) (by simp)]; exact ho, hl⟩, h.lt, h.ne1, h.ne2, h.fin, h.len, h.dle⟩
  exact g.cell (h.tok j u hu) (by simp)
/-- .. and its block alone turns. -/
theorem Pr.turned {C : Ctx} {w w' : World} {i d i' d' : Nat} (h : Pr C w i d) (g : w.grownBy w' (some C.bp)) (hb : w'.heap[C.bp]? = some (.cells #[.slice (some ⟨C.bt, 0, none⟩) C.toks.length C.cap, .int .i64 i', .int .i64 d', .map (some C.bm)] 70 (0, 0)))
    (hi : i' < C.toks.length) (hd : d' ≤ 60) : Pr C w' i' d' := by
  obtain ⟨o, ho, hl⟩ := h.map
  refine ⟨hb, fun j u hu => ?_, ⟨o, by rw [g.block _ (lt_of_heap ho) (by simpa using h.ne2)]; exact ho, hl⟩, hi, h.ne1, h.ne2, h.fin, h.len, hd⟩
  exact g.cell (h.tok j u hu) (by simpa using h.ne1)
set_option maxRecDepth 100000 in
set_option maxHeartbeats 1000000 in
theorem token_any (C : Ctx) (w : World) (i d : Nat) (h : Pr C w i d) (t : T4) (ht : C.toks[i]? = some t) :
    Calls Tryz.prog 44 #[C.p] w fun e w' => e = .returned (tkV t) ∧ w.grownBy w' none := by
  obtain ⟨c0, c1, _, _, _, _, _, _⟩ := cells4_of w C.bp _ _ _ _ _ h.blk
  obtain ⟨g0, g1, g2, g3⟩ := tksC_get C.toks i t ht
  have k0 := h.tok _ _ g0
  have k1 := h.tok _ _ g1
  have k2 := h.tok _ _ g2
  have k3 := h.tok _ _ g3
  have hlt := h.lt
  have hlen := h.len
  have hb : C.bp < w.heap.size := lt_of_heap h.blk
  obtain ⟨bp, bt, cap, bm, toks⟩ := C
  simp only [Ctx.p] at *
  generalize toks.length = n at *
  clear g0 g1 g2 g3 ht h
  have i0 : (0 : Int) ≤ (i : Int) := by omega
  have i1 : (i : Int) < (n : Int) := by omega
  have hbt : bt < w.heap.size := World.block_lt_of_cell? w _ k0
  go_enter Tryz.func44, Tryz.ntmps44
  go_wp2_with fail
  go_region
  all_goals go_wp2_with fail
  all_goals refine bodyPost_ret (v := tkV t) (by simp [results, Tryz.results44, go_sem]; rfl) rfl ⟨rfl, ?_⟩
  all_goals repeat (first | with_reducible exact grownBy_refl _ _ | with_reducible refine World.grownBy.gr_drew ?_ | with_reducible refine World.grownBy.gr_set ?_ (by simp) _ | with_reducible refine gr_alloc ?_ _)
end Go.Proofs.YtkbplcfehllbjaaGreatDoor
/- second, is, fail, skip, want, wantKind, name, enter, leave. -/
namespace Go.Proofs.YtkbplcfehllbjaaGreatDoor
open Go.RowKit
theorem hd_at (l : List T4) (i : Nat) (h : i < l.length) : l[i]? = some (hdT (l.drop i)) := by
  rw [hdT, List.drop_eq_getElem_cons h]; simp [h]
theorem tl_at (l : List T4) (i : Nat) : (l.drop i).tail = l.drop (i + 1) := by simp
def failV (p : Nat) (e : Int) : Value := .iface 72 (.agg #[.int .i64 p, .int .i64 e])
def Out {α : Type} (C : Ctx) (w : World) (d : Nat) (r : PR α) (val : α → World → Value → Prop) (e : Ending) (w' : World) : Prop :=
  w.grownBy w' (some C.bp) ∧ match r with
  | .ok a rest => ∃ v i', e = .returned v ∧ val a w' v ∧ Pr C w' i' d ∧ C.toks.drop i' = rest
  | .err p er => ∃ i' d', e = .panicked [{ v := failV p er, recovered := false }] ∧ d ≤ d' ∧ Pr C w' i' d'
set_option maxRecDepth 100000 in
set_option maxHeartbeats 1000000 in
theorem second_any (C : Ctx) (w : World) (i d : Nat) (h : Pr C w i d) (t : T4) (ht : C.toks[i + 1]? = some t) :
    Calls Tryz.prog 55 #[C.p] w fun e w' => e = .returned (tkV t) ∧ w.grownBy w' none := by
  obtain ⟨c0, c1, _, _, _, _, _, _⟩ := cells4_of w C.bp _ _ _ _ _ h.blk
  obtain ⟨g0, g1, g2, g3⟩ := tksC_get C.toks (i + 1) t ht
  have k0 := h.tok _ _ g0
  have k1 := h.tok _ _ g1
  have k2 := h.tok _ _ g2
  have k3 := h.tok _ _ g3
  have hlt : i + 1 < C.toks.length := (List.getElem?_eq_some_iff.1 ht).1
  have hlen := h.len
  have hb : C.bp < w.heap.size := lt_of_heap h.blk
  obtain ⟨bp, bt, cap, bm, toks⟩ := C
  simp only [Ctx.p] at *
  generalize toks.length = n at *
  clear g0 g1 g2 g3 ht h
  have i0 : (0 : Int) ≤ (i : Int) + 1 := by omega
  have i1 : (i : Int) + 1 < (n : Int) := by omega
  have i2 : ((i : Int) + 1).toNat = i + 1 := by omega
  have i3 : IntKind.i64.wrap ((i : Int) + 1) = (i : Int) + 1 := IntWalk.i64_in _ (by omega)
  have hbt : bt < w.heap.size := World.block_lt_of_cell? w _ k0
  go_enter Tryz.func55, Tryz.ntmps55
  go_wp2_with fail
  go_region
  all_goals go_wp2_with fail
  all_goals refine bodyPost_ret (v := tkV t) (by simp [results, Tryz.results55, go_sem]; rfl) rfl ⟨rfl, ?_⟩
  all_goals repeat (first | with_reducible exact grownBy_refl _ _ | with_reducible assumption | with_reducible refine World.grownBy.gr_drew ?_ | with_reducible refine World.grownBy.gr_set ?_ (by simp) _ | with_reducible refine gr_alloc ?_ _)
theorem field0 (a b c d : Value) (w : World) : (Instr.field 49 (.agg #[a, b, c, d]) 0).run Tryz.prog w = .ok a w := by kernel_rfl
theorem field1 (a b c d : Value) (w : World) : (Instr.field 49 (.agg #[a, b, c, d]) 1).run Tryz.prog w = .ok b w := by kernel_rfl
theorem field2 (a b c d : Value) (w : World) : (Instr.field 49 (.agg #[a, b, c, d]) 2).run Tryz.prog w = .ok c w := by kernel_rfl
theorem field3 (a b c d : Value) (w : World) : (Instr.field 49 (.agg #[a, b, c, d]) 3).run Tryz.prog w = .ok d w := by kernel_rfl
set_option maxRecDepth 100000 in
set_option maxHeartbeats 1000000 in
theorem is_is (c : Bool) (C : Ctx) (w : World) (i d : Nat) (h : Pr C w i d) (s : List UInt8) (hs : isP s (C.toks.drop i) = c) :
    Calls Tryz.prog 52 #[C.p, .string ⟨s.toArray⟩] w fun e w' => e = .returned (.bool c) ∧ w.grownBy w' none := by
  have T := token_any C w i d h _ (hd_at _ _ h.lt)
  unfold isP at hs
  generalize hdT (C.toks.drop i) = t at *
  have HS := Lib.hid hs
  have HT := Lib.hid T
  clear hs h T
  have hf := field2
  go_enter Tryz.func52, Tryz.ntmps52
  go_wp2_with fail
  refine HT.out.mono ?_
  rintro e w' ⟨rfl, hg⟩
  unfold tkV
  go_wp2_with fail
  go_ret
  exact ⟨by rw [← HS.out]; rfl, hg⟩
/-- A call that gives nothing anew but a value. -/
def Gives (f : Nat) (args : Array Value) (w : World) (v : Value) : Prop := Calls Tryz.prog f args w fun e w' => e = .returned v ∧ w.grownBy w' none
set_option maxRecDepth 100000 in
set_option maxHeartbeats 1000000 in
theorem fail_any (er : Int) (C : Ctx) (w : World) (i d : Nat) (h : Pr C w i d) :
    Calls Tryz.prog 68 #[C.p, .int .i64 er] w fun e w' => e = .panicked [{ v := failV (hdT (C.toks.drop i)).pos er, recovered := false }] ∧ w.grownBy w' none := by
  have T := token_any C w i d h _ (hd_at _ _ h.lt)
  generalize hdT (C.toks.drop i) = t at *
  have HT := Lib.hid T
  clear h T
  have hf := field1
  go_enter Tryz.func68, Tryz.ntmps68
  go_wp2_with fail
  refine HT.out.mono ?_
  rintro e w' ⟨rfl, hg⟩
  unfold tkV
  go_wp2_with fail
  exact ⟨rfl, rfl, hg⟩
set_option maxRecDepth 100000 in
set_option maxHeartbeats 1000000 in
theorem skip_no (C : Ctx) (w : World) (i d : Nat) (h : Pr C w i d) (s : List UInt8) (hs : isP s (C.toks.drop i) = false) :
    Calls Tryz.prog 70 #[C.p, .string ⟨s.toArray⟩] w fun e w' => e = .returned (.bool false) ∧ w.grownBy w' none := by
  have HT := Lib.hid (is_is false C w i d h s hs)
  clear h hs
  go_enter Tryz.func70, Tryz.ntmps70
  go_wp2_with fail
  refine HT.out.mono ?_
  rintro e w' ⟨rfl, hg⟩
  go_wp2_with fail
  go_ret
  exact ⟨rfl, hg⟩
/-- The parser's block with another place. -/
theorem set_next {C : Ctx} {w : World} {i d j : Nat} {v : Int} (h : Pr C w i d) (hj : j < C.toks.length) (hv : v = j) : Pr C (w.setCell ⟨C.bp, 1, none⟩ (.int .i64 v)) j d ∧ w.grownBy (w.setCell ⟨C.bp, 1, none⟩ (.int .i64 v)) (some C.bp) := by
  subst hv
  have g : w.grownBy (w.setCell ⟨C.bp, 1, none⟩ (.int .i64 j)) (some C.bp) :=
    ⟨rfl, rfl, rfl, by simp [World.setCell], fun k _ hk => Below.heap_setCell _ _ _ _ (by simpa using hk)⟩
  refine ⟨h.turned g ?_ hj h.dle, g⟩
  have := h.blk
  simp [World.setCell, Array.getElem?_modify, this]
theorem set_around {C : Ctx} {w : World} {i d j : Nat} {v : Int} (h : Pr C w i d) (hj : j ≤ 60) (hv : v = j) : Pr C (w.setCell ⟨C.bp, 2, none⟩ (.int .i64 v)) i j ∧ w.grownBy (w.setCell ⟨C.bp, 2, none⟩ (.int .i64 v)) (some C.bp) := by
  subst hv
  have g : w.grownBy (w.setCell ⟨C.bp, 2, none⟩ (.int .i64 j)) (some C.bp) :=
    ⟨rfl, rfl, rfl, by simp [World.setCell], fun k _ hk => Below.heap_setCell _ _ _ _ (by simpa using hk)⟩
  refine ⟨h.turned g ?_ h.lt hj, g⟩
  have := h.blk
  simp [World.setCell, Array.getElem?_modify, this]
theorem next_lt {C : Ctx} {w : World} {i d : Nat} (h : Pr C w i d) {s : List UInt8} (hne : s ≠ []) (hs : isP s (C.toks.drop i) = true) : i + 1 < C.toks.length := by
  refine h.fin i _ (hd_at _ _ h.lt) (Or.inl ?_)
  unfold isP at hs
  rw [beq_iff_eq.1 hs]; exact hne
set_option maxRecDepth 100000 in
set_option maxHeartbeats 1000000 in
theorem skip_yes (C : Ctx) (w : World) (i d : Nat) (h : Pr C w i d) (s : List UInt8) (hne : s ≠ []) (hs : isP s (C.toks.drop i) = true) :
    Calls Tryz.prog 70 #[C.p, .string ⟨s.toArray⟩] w fun e w' => e = .returned (.bool true) ∧ w.grownBy w' (some C.bp) ∧ Pr C w' (i + 1) d := by
  have HT := Lib.hid (is_is true C w i d h s hs)
  have hl := next_lt h hne hs
  have hlen := h.len
  have HP := Lib.hid h
  clear h hs
  have hp : C.p = .pointer (some ⟨C.bp, 0, none⟩) := rfl
  go_enter Tryz.func70, Tryz.ntmps70
  go_wp2_with fail
  refine HT.out.mono ?_
  rintro e w' ⟨rfl, hg⟩
  have P' := HP.out.grown hg
  obtain ⟨_, c1, _, _, _, f1, _, _⟩ := cells4_of w' C.bp _ _ _ _ _ P'.blk
  have HP2 := Lib.hid P'
  clear P'
  go_wp2_with fail
  go_ret
  obtain ⟨q1, q2⟩ := set_next HP2.out hl (v := (i : Int) + 1) (by omega)
  exact ⟨rfl, grownBy_trans (grownBy_some hg _) q2, q1⟩
theorem Out.err {α : Type} {C : Ctx} {w : World} {d : Nat} {r : PR α} {val : α → World → Value → Prop} {w' : World} {p i' d' : Nat} {er : Int} (h : r = .err p er) (g : w.grownBy w' (some C.bp)) (hp : Pr C w' i' d') (hd : d ≤ d' := by omega) :
    Out C w d r val (.panicked [{ v := failV p er, recovered := false }]) w' := by
  subst h; exact ⟨g, i', d', rfl, hd, hp⟩
theorem Out.ok {α : Type} {C : Ctx} {w : World} {d : Nat} {r : PR α} {val : α → World → Value → Prop} {w' : World} {i' : Nat} {a : α} {v : Value} {rest : List T4} (h : r = .ok a rest) (g : w.grownBy w' (some C.bp)) (hv : val a w' v) (hp : Pr C w' i' d) (hr : C.toks.drop i' = rest) :
    Out C w d r val (.returned v) w' := by
  subst h; exact ⟨g, v, i', rfl, hv, hp, hr⟩
def unitVal (_ : Unit) (_ : World) (v : Value) : Prop := v = .tuple #[]
set_option maxRecDepth 100000 in
set_option maxHeartbeats 1000000 in
theorem want_any (C : Ctx) (w : World) (i d : Nat) (h : Pr C w i d) (s : List UInt8) (hne : s ≠ []) :
    Calls Tryz.prog 58 #[C.p, .string ⟨s.toArray⟩] w (Out C w d (wantP s (C.toks.drop i)) unitVal) := by
  have HP := Lib.hid h
  cases hs : isP s (C.toks.drop i) with
  | true =>
    have hr : wantP s (C.toks.drop i) = .ok () (C.toks.drop (i + 1)) := by unfold wantP; rw [if_pos hs, tl_at]
    rw [hr]
    have HT := Lib.hid (skip_yes C w i d h s hne hs)
    clear h hs hr
    go_enter Tryz.func58, Tryz.ntmps58
    go_wp2_with fail
    refine HT.out.mono ?_
    rintro e w' ⟨rfl, hg, hp⟩
    have HP' := Lib.hid hp
    clear hp
    go_wp2_with fail
    go_end0
    exact Out.ok rfl hg rfl HP'.out rfl
  | false =>
    have hr : wantP s (C.toks.drop i) = .err (hdT (C.toks.drop i)).pos 2 := by unfold wantP; rw [if_neg (by simp [hs])]; rfl
    rw [hr]
    have HT := Lib.hid (skip_no C w i d h s hs)
    clear h hs hr
    go_enter Tryz.func58, Tryz.ntmps58
    go_wp2_with fail
    refine HT.out.mono ?_
    rintro e w' ⟨rfl, hg⟩
    go_wp2_with fail
    refine (fail_any 2 C w' i d (HP.out.grown hg)).mono ?_
    rintro e w2 ⟨rfl, hg2⟩
    exact ⟨rfl, Out.err rfl (grownBy_some (grownBy_trans hg hg2) _) (HP.out.grown (grownBy_trans hg hg2))⟩
end Go.Proofs.YtkbplcfehllbjaaGreatDoor
/- Where a call began, and where it is: At; wantKind, name, enter, leave. -/
namespace Go.Proofs.YtkbplcfehllbjaaGreatDoor
open Go.RowKit
/-- The call began in w0; it stands in w, the parser at i, d around. -/
structure At (C : Ctx) (w0 w : World) (i d : Nat) : Prop where
  pr : Pr C w i d
  gr : w0.grownBy w (some C.bp)
  b1 : C.bp < w0.heap.size
  b2 : C.bt < w0.heap.size
  b3 : C.bm < w0.heap.size
theorem Pr.at {C : Ctx} {w : World} {i d : Nat} (h : Pr C w i d) : At C w w i d := by
  obtain ⟨o, ho, _⟩ := h.map
  refine ⟨h, grownBy_refl _ _, lt_of_heap h.blk, ?_, lt_of_heap ho⟩
  have hg := (tksC_get C.toks i _ (hd_at _ _ h.lt)).1
  exact World.block_lt_of_cell? w _ (h.tok _ _ hg)
theorem At.call {C : Ctx} {w0 w w' : World} {i d : Nat} (h : At C w0 w i d) (g : w.grownBy w' none) : At C w0 w' i d :=
  ⟨h.pr.grown g, grownBy_trans h.gr (grownBy_some g _), h.b1, h.b2, h.b3⟩
theorem At.turn {C : Ctx} {w0 w w' : World} {i d i' d' : Nat} (h : At C w0 w i d) (g : w.grownBy w' (some C.bp)) (p : Pr C w' i' d') : At C w0 w' i' d' :=
  ⟨p, grownBy_trans h.gr g, h.b1, h.b2, h.b3⟩
theorem At.alloc {C : Ctx} {w0 w : World} {i d : Nat} (h : At C w0 w i d) (o : Obj) : At C w0 (w.alloc o) i d := h.call (gr_alloc (grownBy_refl _ _) o)
theorem At.drew {C : Ctx} {w0 w : World} {i d : Nat} (h : At C w0 w i d) : At C w0 w.drew i d := h.call (grownBy_refl _ _).gr_drew
theorem At.next {C : Ctx} {w0 w : World} {i d j : Nat} {v : Int} (h : At C w0 w i d) (hj : j < C.toks.length) (hv : v = j) : At C w0 (w.setCell ⟨C.bp, 1, none⟩ (.int .i64 v)) j d :=
  h.turn (set_next h.pr hj hv).2 (set_next h.pr hj hv).1
theorem At.around {C : Ctx} {w0 w : World} {i d j : Nat} {v : Int} (h : At C w0 w i d) (hj : j ≤ 60) (hv : v = j) : At C w0 (w.setCell ⟨C.bp, 2, none⟩ (.int .i64 v)) i j :=
  h.turn (set_around h.pr hj hv).2 (set_around h.pr hj hv).1
theorem At.set {C : Ctx} {w0 w : World} {i d : Nat} (h : At C w0 w i d) {p : Addr} (hp : w0.heap.size ≤ p.block) (v : Value) : At C w0 (w.setCell p v) i d := by
  have hb := fun k (hk : k < w0.heap.size) => Below.heap_setCell w p v k (by omega)
  have h1 := h.b1
  have h2 := h.b2
  have h3 := h.b3
  obtain ⟨o, ho, hl⟩ := h.pr.map
  refine ⟨⟨by rw [hb _ h1]; exact h.pr.blk, fun j u hu => ?_, ⟨o, by rw [hb _ h3]; exact ho, hl⟩, h.pr.lt, h.pr.ne1, h.pr.ne2, h.pr.fin, h.pr.len, h.pr.dle⟩, ?_, h1, h2, h3⟩
  · exact (World.cell?_of_block (w := w) (hb _ h2)).trans (h.pr.tok j u hu)
  · exact ⟨h.gr.os, h.gr.tape, h.gr.output, by rw [show (w.setCell p v).heap.size = w.heap.size by simp [World.setCell]]; exact h.gr.size, fun k hk hn => (hb k hk).trans (h.gr.block k hk hn)⟩
theorem At.okOut {α : Type} {C : Ctx} {w w' : World} {i' d : Nat} {r : PR α} {val : α → World → Value → Prop} {a : α} {v : Value} {rest : List T4} (h : At C w w' i' d) (hr : r = .ok a rest) (hv : val a w' v) (hd : C.toks.drop i' = rest) :
    Out C w d r val (.returned v) w' := Out.ok hr h.gr hv h.pr hd
theorem At.errOut {α : Type} {C : Ctx} {w w' : World} {i' d d' : Nat} {r : PR α} {val : α → World → Value → Prop} {p : Nat} {er : Int} (h : At C w w' i' d') (hr : r = .err p er) (hd : d ≤ d' := by omega) :
    Out C w d r val (.panicked [{ v := failV p er, recovered := false }]) w' := Out.err hr h.gr h.pr hd
theorem new_is {w w' : World} {o : Obj} {r : Option Nat} (h : (w.alloc o).grownBy w' r) (hr : ∀ k, r = some k → k < w.heap.size) : w'.heap[w.heap.size]? = some o := by
  rw [h.block w.heap.size (by simp) (fun e => by have := hr _ e.symm; omega)]; show (w.heap.push o)[w.heap.size]? = some o; simp
def tokVal (t : T4) (_ : World) (v : Value) : Prop := v = tkV t
def strVal (s : List UInt8) (_ : World) (v : Value) : Prop := v = .string ⟨s.toArray⟩
set_option maxRecDepth 100000 in
set_option maxHeartbeats 1000000 in
theorem wantKind_any (k : Int) (hk : k ≠ 0) (C : Ctx) (w : World) (i d : Nat) (h : Pr C w i d) :
    Calls Tryz.prog 87 #[C.p, .int .i64 k] w (Out C w d (kindP k (C.toks.drop i)) tokVal) := by
  have HP := Lib.hid h.at
  have hta := hd_at _ _ h.lt
  have hfin := h.fin i _ hta
  have hlen := h.len
  unfold kindP
  have hpos : ∀ er, (failP (C.toks.drop i) er : PR T4) = .err (hdT (C.toks.drop i)).pos er := fun _ => rfl
  rw [hpos]
  generalize hdT (C.toks.drop i) = t at *
  have HA := Lib.hid hta
  have hbp := lt_of_heap h.blk
  have hp : C.p = .pointer (some ⟨C.bp, 0, none⟩) := rfl
  by_cases hs : t.kind = k
  · rw [if_pos hs, tl_at]
    have hl : i + 1 < C.toks.length := hfin (Or.inr (by rw [hs]; exact hk))
    have hne : (t.kind != k) = false := by simp [hs]
    clear h hs hk hfin hta hpos
    go_enter Tryz.func87, Tryz.ntmps87
    go_wp2_with fail
    refine (token_any C _ i d (HP.out.alloc _).pr t HA.out).mono ?_
    rintro e w' ⟨rfl, hg⟩
    have P' := (HP.out.alloc _).call hg
    obtain ⟨_, c1, _, _, _, f1, _, _⟩ := cells4_of w' C.bp _ _ _ _ _ P'.pr.blk
    obtain ⟨r0, r1, r2, r3, e0, e1, e2, e3⟩ := cells4_of w' w.heap.size _ _ _ _ _ (new_is hg (by simp))
    have hz := hg.size
    simp at hz
    have hbp' : C.bp < w'.heap.size := by omega
    have hz' : w.heap.size < w'.heap.size := by omega
    have n1 : ¬ w.heap.size = C.bp := by omega
    have n2 : ¬ C.bp = w.heap.size := by omega
    have HP2 := Lib.hid P'
    clear P' hg
    unfold tkV
    go_wp2_with fail
    refine bodyPost_ret (v := tkV t) (by simp [results, Tryz.results87, go_sem, hz', r0, r1, r2, r3]; rfl) rfl ?_
    refine At.okOut (i' := i + 1) ?_ rfl rfl rfl
    refine At.alloc (At.set (At.set (At.set (At.set ?_ (Nat.le_refl _) _) (Nat.le_refl _) _) (Nat.le_refl _) _) (Nat.le_refl _) _) _
    exact At.next HP2.out hl (by omega)
  · rw [if_neg hs]
    have hne : (t.kind != k) = true := by simp [hs]
    clear h hs hk hfin hta hpos
    go_enter Tryz.func87, Tryz.ntmps87
    go_wp2_with fail
    refine (token_any C _ i d (HP.out.alloc _).pr t HA.out).mono ?_
    rintro e w' ⟨rfl, hg⟩
    have P' := (HP.out.alloc _).call hg
    have HP2 := Lib.hid P'
    clear P' hg
    unfold tkV
    go_wp2_with fail
    refine (fail_any 2 C _ i d (HP2.out.alloc _).pr).mono ?_
    rintro e w2 ⟨rfl, hg2⟩
    have HH := HA.out
    rw [hd_at _ _ HP2.out.pr.lt] at HH
    cases HH
    exact ⟨rfl, At.errOut ((HP2.out.alloc _).call hg2) rfl⟩
set_option maxRecDepth 100000 in
set_option maxHeartbeats 1000000 in
theorem name_any (C : Ctx) (w : World) (i d : Nat) (h : Pr C w i d) :
    Calls Tryz.prog 69 #[C.p] w (Out C w d (nameP (C.toks.drop i)) strVal) := by
  have HT := Lib.hid (wantKind_any 1 (by omega) C w i d h)
  unfold nameP
  generalize kindP 1 (C.toks.drop i) = R at HT ⊢
  clear h
  have hf := field2
  go_enter Tryz.func69, Tryz.ntmps69
  go_wp2_with fail
  refine HT.out.mono ?_
  clear HT
  cases R with
  | ok t r =>
    rintro e w' ⟨hg, v, i', rfl, hv, hp, hd⟩
    have HR := Lib.hid (At.turn hp.at (grownBy_refl _ _) hp)
    have HG := Lib.hid hg
    have HD := Lib.hid hd
    have hv' : v = tkV t := hv
    subst hv'
    clear hv hg hp hd
    unfold tkV
    go_wp2_with fail
    go_ret
    exact Out.ok rfl HG.out rfl HR.out.pr HD.out
  | err p er =>
    rintro e w' ⟨hg, i', d', rfl, hdd, hp⟩
    exact ⟨rfl, Out.err rfl hg hp⟩
set_option maxRecDepth 100000 in
set_option maxHeartbeats 1000000 in
theorem enter_yes (C : Ctx) (w : World) (i d : Nat) (h : Pr C w i d) (hd : d < 60) :
    Calls Tryz.prog 75 #[C.p] w fun e w' => e = .returned (.tuple #[]) ∧ w.grownBy w' (some C.bp) ∧ Pr C w' i (d + 1) := by
  have HP := Lib.hid h.at
  have hp : C.p = .pointer (some ⟨C.bp, 0, none⟩) := rfl
  obtain ⟨_, _, c2, _, _, _, f2, _⟩ := cells4_of w C.bp _ _ _ _ _ h.blk
  have hne : ((d : Int) == 60) = false := by simp; omega
  clear h
  go_enter Tryz.func75, Tryz.ntmps75
  go_wp2_with fail
  go_end0
  have := HP.out.around (j := d + 1) (v := (d : Int) + 1) (by omega) (by omega)
  exact ⟨rfl, this.gr, this.pr⟩
set_option maxRecDepth 100000 in
set_option maxHeartbeats 1000000 in
theorem enter_no (C : Ctx) (w : World) (i : Nat) (h : Pr C w i 60) :
    Calls Tryz.prog 75 #[C.p] w fun e w' => e = .panicked [{ v := failV (hdT (C.toks.drop i)).pos 4, recovered := false }] ∧ w.grownBy w' none := by
  have HP := Lib.hid h
  have hp : C.p = .pointer (some ⟨C.bp, 0, none⟩) := rfl
  obtain ⟨_, _, c2, _, _, _, f2, _⟩ := cells4_of w C.bp _ _ _ _ _ h.blk
  have hne : (((60 : Nat) : Int) == 60) = true := by simp
  clear h
  go_enter Tryz.func75, Tryz.ntmps75
  go_wp2_with fail
  refine (fail_any 4 C w i 60 HP.out).mono ?_
  rintro e w2 ⟨rfl, hg2⟩
  exact ⟨rfl, rfl, hg2⟩
set_option maxRecDepth 100000 in
set_option maxHeartbeats 1000000 in
theorem leave_any (C : Ctx) (w : World) (i d : Nat) (h : Pr C w i (d + 1)) :
    Calls Tryz.prog 77 #[C.p] w fun e w' => e = .returned (.tuple #[]) ∧ w.grownBy w' (some C.bp) ∧ Pr C w' i d := by
  have HP := Lib.hid h.at
  have hp : C.p = .pointer (some ⟨C.bp, 0, none⟩) := rfl
  obtain ⟨_, _, c2, _, _, _, f2, _⟩ := cells4_of w C.bp _ _ _ _ _ h.blk
  have hle := h.dle
  clear h
  go_enter Tryz.func77, Tryz.ntmps77
  go_wp2_with fail
  go_end0
  have := HP.out.around (j := d) (v := (d : Int)) (by omega) rfl
  exact ⟨rfl, this.gr, this.pr⟩
end Go.Proofs.YtkbplcfehllbjaaGreatDoor
