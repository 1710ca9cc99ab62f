/- Merged: O20, O21, GnE, GnS. -/
import Derived.Test.YtajmkdbokdjmeaaGreatMk15
import Derived.Scope
import Derived.LoopN
import Derived.Recover
import Derived.Test.YtajmkdbokdjmeaaGreatProg
/- An evaluator: code, calls. Kit only. -/
namespace Go.Proofs.YtajmkdbokdjmeaaGreat
open Go.RowKit
inductive EX where
  | normal
  | exit (id : Nat)
  | ret
def EX.toExit : EX → Exit
  | .normal => .normal
  | .exit i => .exit i
  | .ret => .ret
inductive RC where
  | fail
  | ok (e : EX) (tm : Tr AV) (m : Mem)
def ofRT : RT → RC
  | .fail => .fail
  | .ok tm m => .ok .normal tm m
theorem ofRT_ok {r : RT} {e : EX} {tm : Tr AV} {m : Mem} (h : ofRT r = .ok e tm m) : e = .normal ∧ r = .ok tm m := by
  cases r with
  | fail => cases h
  | ok tm' m' =>
    have h' : RC.ok .normal tm' m' = .ok e tm m := h
    injection h' with h1 h2 h3
    subst h1; subst h2; subst h3
    exact ⟨rfl, rfl⟩
noncomputable def evResults (c : Ctx) (tm : Tr AV) (m : Mem) (rs : List ResultVar) : Option (List AV) :=
  List.rec (motive := fun _ => Option (List AV)) (some [])
    (fun r _ ih =>
      match (match r with
        | .tmp t => tm.get t
        | .cell a t => match tm.get a with
          | some x => evLoad c t x m
          | none => none) with
      | some v => match ih with
        | some l => some (v :: l)
        | none => none
      | none => none) rs
/-- One result stands for itself. -/
def oneOr (l : List AV) : AV :=
  match l with
  | [v] => v
  | l => .tup l
/-- Rounds of a loop. -/
noncomputable def loopF (e : Tr AV → Mem → RC) (n : Nat) : Tr AV → Mem → RC :=
  Nat.rec (motive := fun _ => Tr AV → Mem → RC) (fun _ _ => .fail)
    (fun _ ih tm m => match e tm m with
      | .ok .normal tm1 m1 => ih tm1 m1
      | r => r) n
noncomputable def codeF (ev : Ctx → Nat → Code → Tr AV → Mem → RC) (cl : Ctx → Nat → List AV → Mem → RV) (c : Ctx) (nt : Nat) (x : Code) (tm : Tr AV) (m : Mem) : RC :=
  match x with
  | .skip => .ok .normal tm m
  | .label _ => .ok .normal tm m
  | .region _ ops draw => ofRT (cond draw (evDrawn c cl nt ops tm m) (evSeq c (cl c) nt ops ops.toList tm m))
  | .seq a b =>
    match ev c nt a tm m with
    | .ok .normal tm1 m1 => ev c nt b tm1 m1
    | r => r
  | .cond k a b =>
    match opd c tm.get k with
    | some (.bool t) => cond t (ev c nt a tm m) (ev c nt b tm m)
    | _ => .fail
  | .block id b =>
    match ev c nt b tm m with
    | .ok (.exit i) tm1 m1 => cond (Nat.beq i id) (.ok .normal tm1 m1) (.ok (.exit i) tm1 m1)
    | r => r
  | .loop b => loopF (ev c nt b) 1000000 tm m
  | .exit id => .ok (.exit id) tm m
  | .ret => .ok .ret tm m
  | .scope b => ev c nt b tm m
  | _ => .fail
/-- What is put off: a function, and all that it is given. -/
noncomputable def putOff (c : Ctx) (env : Nat → Option AV) (o : Oper) : Option (Nat × List AV) :=
  match o.op with
  | .defer k => match o.guard, k.callee with
    | none, .value f => match opd c env f, opds c env k.args.toList with
      | some (.func fn l), some args => cond (mayEnter c.P fn) (some (fn, args ++ l)) none
      | _, _ => none
    | _, _ => none
  | _ => none
inductive RD where
  | fail
  | ok (tm : Tr AV) (ds : List (Nat × List AV)) (m : Mem)
noncomputable def evSeqD (c : Ctx) (cl : Nat → List AV → Mem → RV) (nt : Nat) (ops : Array Oper) (os : List Oper) : Tr AV → List (Nat × List AV) → Mem → RD :=
  List.rec (motive := fun _ => Tr AV → List (Nat × List AV) → Mem → RD) (fun tm ds m => .ok tm ds m)
    (fun o _ ih tm ds m =>
      match putOff c tm.get o with
      | some d => (match evPut nt tm o.dst (.tup []) with
        | some tm' => ih tm' (d :: ds) m
        | none => .fail)
      | none => (match evSeq c cl nt ops [o] tm m with
        | .ok tm' m' => ih tm' ds m'
        | .fail => .fail)) os
inductive RB where
  | fail
  | ok (e : EX) (tm : Tr AV) (ds : List (Nat × List AV)) (m : Mem)
/-- A function's body, as far as calls are put off in it. -/
noncomputable def evB1 (e : Ctx → Nat → Code → Tr AV → Mem → RC) (cl : Nat → List AV → Mem → RV) (c : Ctx) (nt : Nat) (ih : Code → Tr AV → List (Nat × List AV) → Mem → RB) (x : Code) (tm : Tr AV) (ds : List (Nat × List AV)) (m : Mem) : RB :=
  match x with
  | .seq a b => (match ih a tm ds m with
    | .ok .normal tm1 ds1 m1 => ih b tm1 ds1 m1
    | r => r)
  | .region _ ops false => (match evSeqD c cl nt ops ops.toList tm ds m with
    | .ok tm' ds' m' => .ok .normal tm' ds' m'
    | .fail => .fail)
  | x => (match e c nt x tm m with
    | .ok r tm' m' => .ok r tm' ds m'
    | .fail => .fail)
noncomputable def evB (e : Ctx → Nat → Code → Tr AV → Mem → RC) (cl : Nat → List AV → Mem → RV) (c : Ctx) (nt : Nat) (n : Nat) : Code → Tr AV → List (Nat × List AV) → Mem → RB :=
  Nat.rec (motive := fun _ => Code → Tr AV → List (Nat × List AV) → Mem → RB) (fun _ _ _ _ => .fail) (fun _ ih => evB1 e cl c nt ih) n
noncomputable def offEnd (c : Ctx) (fn : Func) (r : RC) : Option Mem :=
  match r with
  | .ok .normal tm m => (match evResults c tm m fn.results.toList with | some _ => some m | none => none)
  | .ok .ret tm m => (match evResults c tm m fn.results.toList with | some _ => some m | none => none)
  | _ => none
def isRecover (o : Oper) : Bool :=
  match o.op, o.guard with
  | .call k, none => (match k.callee with | .builtin .recover => true | _ => false)
  | _, _ => false
/-- A call that was put off, where nothing panics. -/
noncomputable def evOff (e : Ctx → Nat → Code → Tr AV → Mem → RC) (cl : Nat → List AV → Mem → RV) (c : Ctx) (f : Nat) (args : List AV) (m : Mem) : Option Mem :=
  match c.P.funcs[f]? with
  | some fn =>
    match fn.body with
    | some x =>
      cond (Nat.ble args.length fn.ntmps)
        (match x with
        | .seq (.region id ops false) rest =>
          (match ops.toList with
          | o :: os => cond (isRecover o)
            (match evPut fn.ntmps (treeOf args 0 .e) o.dst .niliface with
            | some tm1 => (match evSeq c cl fn.ntmps ops os tm1 m with
              | .ok tm2 m2 => offEnd c fn (e c fn.ntmps rest tm2 m2)
              | .fail => none)
            | none => none)
            (offEnd c fn (e c fn.ntmps (.seq (.region id ops false) rest) (treeOf args 0 .e) m))
          | [] => none)
        | x => offEnd c fn (e c fn.ntmps x (treeOf args 0 .e) m)) none
    | none => none
  | none => none
noncomputable def evOffs (e : Ctx → Nat → Code → Tr AV → Mem → RC) (cl : Nat → List AV → Mem → RV) (c : Ctx) (ds : List (Nat × List AV)) : Mem → Option Mem :=
  List.rec (motive := fun _ => Mem → Option Mem) (fun m => some m)
    (fun d _ ih m => match evOff e cl c d.1 d.2 m with
      | some m1 => ih m1
      | none => none) ds
def isDefer (o : Oper) : Bool := match o.op with | .defer _ => true | _ => false
noncomputable def anyDefer (os : List Oper) : Bool := List.rec (motive := fun _ => Bool) false (fun o _ ih => cond (isDefer o) true ih) os
noncomputable def hasD (n : Nat) : Code → Bool :=
  Nat.rec (motive := fun _ => Code → Bool) (fun _ => false) (fun _ ih x => match x with
    | .seq a b => cond (ih a) true (ih b)
    | .region _ ops _ => anyDefer ops.toList
    | _ => false) n
noncomputable def callD (e : Ctx → Nat → Code → Tr AV → Mem → RC) (cl : Nat → List AV → Mem → RV) (c : Ctx) (fn : Func) (x : Code) (args : List AV) (m : Mem) : RV :=
  match evB e cl c fn.ntmps 1000 x (treeOf args 0 .e) [] m with
  | .ok (.exit _) _ _ _ => .fail
  | .ok _ tm ds m1 => (match evOffs e cl c ds m1 with
    | some m2 => (match evResults c tm m2 fn.results.toList with
      | some l => .ok (oneOr l) m2
      | none => .fail)
    | none => .fail)
  | .fail => .fail
/-- Calls that are known already. -/
abbrev Ext := Ctx → Nat → List AV → Mem → RV
def noExt : Ext := fun _ _ _ _ => .fail
noncomputable def callF (ext : Ext) (ev : Ctx → Nat → Code → Tr AV → Mem → RC) (cl : Ctx → Nat → List AV → Mem → RV) (c : Ctx) (f : Nat) (args : List AV) (m : Mem) : RV :=
  match ext c f args m with
  | .ok v m' => .ok v m'
  | .fail =>
  match c.P.funcs[f]? with
  | some fn =>
    match fn.body with
    | some x =>
      cond (Nat.ble args.length fn.ntmps)
        (cond (hasD 1000 x) (callD ev (cl c) c fn x args m)
        (match ev c fn.ntmps x (treeOf args 0 .e) m with
        | .ok .normal tm m1 => match evResults c tm m1 fn.results.toList with
          | some l => .ok (oneOr l) m1
          | none => .fail
        | .ok .ret tm m1 => match evResults c tm m1 fn.results.toList with
          | some l => .ok (oneOr l) m1
          | none => .fail
        | _ => .fail)) .fail
    | none => .fail
  | none => .fail
structure Lev where
  made ::
  ev : Ctx → Nat → Code → Tr AV → Mem → RC
  cl : Ctx → Nat → List AV → Mem → RV
/-- The evaluator: n bounds how deep it goes. -/
noncomputable def lev (ext : Ext) (n : Nat) : Lev :=
  Nat.rec (motive := fun _ => Lev) ⟨fun _ _ _ _ _ => .fail, fun _ _ _ _ => .fail⟩ (fun _ ih => ⟨codeF ih.ev (callF ext ih.ev ih.cl), callF ext ih.ev ih.cl⟩) n
noncomputable def ev (ext : Ext) (n : Nat) : Ctx → Nat → Code → Tr AV → Mem → RC := (lev ext n).ev
noncomputable def evCalls (ext : Ext) (n : Nat) : Ctx → Nat → List AV → Mem → RV := (lev ext n).cl
def CodeSt (e : Ctx → Nat → Code → Tr AV → Mem → RC) : Prop := ∀ c nt x tm m r tm' m', e c nt x tm m = .ok r tm' m' → c.bar ≤ m.cnt → Stat c m m'
theorem evSeq_st {c : Ctx} {cl : Nat → List AV → Mem → RV} {nt : Nat} {ops : Array Oper} (hcl : CallSt c cl) : ∀ (os : List Oper) (tm tm' : Tr AV) (m m' : Mem), evSeq c cl nt ops os tm m = .ok tm' m' → c.bar ≤ m.cnt → Stat c m m'
  | [], tm, tm', m, m', h, _ => by
    have h' : RT.ok tm m = .ok tm' m' := h
    injection h' with _ h'
    subst h'
    exact Stat.refl _ _
  | o :: os, tm, tm', m, m', h, hb => by
    have h' : (match evGuard ops tm.get o with
      | some true =>
        match evOper c tm.get cl o.op m with
        | .ok v m' => cond (Nat.ble m.cnt m'.cnt) (match evPut nt tm o.dst v with
          | some tm' => cond (Nat.ble m'.cnt m'.cnt) (evSeq c cl nt ops os tm' m') .fail
          | none => .fail) .fail
        | .fail => .fail
      | some false =>
        match evPut nt tm o.dst (.tup []) with
        | some tm' => evSeq c cl nt ops os tm' m
        | none => .fail
      | none => .fail) = RT.ok tm' m' := h
    split at h'
    · split at h'
      · rename_i v m1 hop
        cases hb1 : Nat.ble m.cnt m1.cnt <;> rw [hb1] at h'
        · cases h'
        simp only [cond_true] at h'
        split at h'
        · cases hb2 : Nat.ble m1.cnt m1.cnt <;> rw [hb2] at h'
          · cases h'
          have h1 := evOper_st hop hcl hb
          exact h1.trans (evSeq_st hcl os _ _ _ _ h' (Nat.le_trans hb h1.1))
        · cases h'
      · cases h'
    · split at h'
      · exact evSeq_st hcl os _ _ _ _ h' hb
      · cases h'
    · cases h'
theorem evDrawn_st {c : Ctx} {cl : Ctx → Nat → List AV → Mem → RV} {nt : Nat} {ops : Array Oper} {tm tm' : Tr AV} {m m' : Mem} (hcl : ∀ c', CallSt c' (cl c')) (h : evDrawn c cl nt ops tm m = .ok tm' m') (hb : c.bar ≤ m.cnt) : Stat c m m' := by
  unfold evDrawn at h
  cases hmx : c.P.follows .mixedOrders <;> rw [hmx] at h
  · cases h
  simp only [cond_true] at h
  split at h
  · rename_i s ms hmask
    cases hpf : pureFrom ops.toList ms ops.toList 0 <;> rw [hpf] at h
    · cases h
    simp only [cond_true] at h
    revert h
    generalize hst0 : stScan ((ops.toList.take s).map (·.dst)) tm (ops.toList.take s) 0 = st
    intro h
    cases hun : uniqSt st <;> rw [hun] at h
    · cases h
    cases hoks : okSt c m st <;> rw [hoks] at h
    · cases h
    simp only [cond_true] at h
    split at h
    · rename_i R mp hpre
      split at h
      · rename_i tm1 hput
        obtain ⟨g, N, _, hN0, hR, hNs, hsteps⟩ := evPre_steps (ops.toList.take s) 0 (fun _ => ⟨0, none, .nilp, 0, 0⟩) (fun _ => m) R mp hpre
        have hN00 : N 0 = m := hN0 0 (Nat.le_refl _)
        have key : ∀ k, k ≤ (ops.toList.take s).length → Stat c m (N k) := by
          intro k
          induction k with
          | zero => intro _; rw [hN00]; exact Stat.refl _ _
          | succ k ih =>
            intro hk
            have h1 := ih (by omega)
            obtain ⟨mask, hs⟩ := hsteps k ((ops.toList.take s)[k]'(by omega)) (List.getElem?_eq_getElem (by omega))
            rw [Nat.zero_add] at hs
            refine h1.trans ?_
            rcases hs.told with ⟨_, _, _, ht⟩ | ⟨b, m1, r, _, _, hb1, hb2, _, _, _, _, hm⟩ | ⟨_, _, ht⟩
            · have h2 := evOper_st ht (hcl _) (Nat.le_refl _)
              exact ⟨h2.1, fun b hb' => h2.2.1 b (Nat.lt_of_lt_of_le hb' (Nat.le_trans hb h1.1)), h2.2.2⟩
            · rw [hm]
              refine ⟨Nat.le_refl _, fun x hx => Tr.get_set_ne _ _ _ _ (by omega), fun hw x y hx => ?_⟩
              show x < (N k).cnt
              rcases (N k).h.get_set _ _ _ _ hx with ⟨e, _⟩ | ⟨_, h6⟩
              · have := h1.1
                omega
              · exact hw x y h6
            · rw [ht]; exact Stat.refl _ _
        have h3 := key _ (Nat.le_refl _)
        rw [Nat.zero_add] at hNs
        rw [hNs] at h3
        exact h3.trans (evSeq_st (hcl c) _ _ _ _ _ h (Nat.le_trans hb h3.1))
      · cases h
    · cases h
  · cases h
theorem evSeqD_st {c : Ctx} {cl : Nat → List AV → Mem → RV} {nt : Nat} {ops : Array Oper} (hcl : CallSt c cl) : ∀ (os : List Oper) (tm tm' : Tr AV) (ds ds' : List (Nat × List AV)) (m m' : Mem), evSeqD c cl nt ops os tm ds m = .ok tm' ds' m' → c.bar ≤ m.cnt → Stat c m m'
  | [], tm, tm', ds, ds', m, m', h, _ => by
    have h' : RD.ok tm ds m = .ok tm' ds' m' := h
    injection h' with _ _ h'
    subst h'
    exact Stat.refl _ _
  | o :: os, tm, tm', ds, ds', m, m', h, hb => by
    have h' : (match putOff c tm.get o with
      | some d => (match evPut nt tm o.dst (.tup []) with
        | some tm' => evSeqD c cl nt ops os tm' (d :: ds) m
        | none => .fail)
      | none => (match evSeq c cl nt ops [o] tm m with
        | .ok tm' m' => evSeqD c cl nt ops os tm' ds m'
        | .fail => .fail)) = RD.ok tm' ds' m' := h
    split at h'
    · split at h'
      · exact evSeqD_st hcl os _ _ _ _ _ _ h' hb
      · cases h'
    · split at h'
      · rename_i tm1 m1 h1
        have h2 := evSeq_st hcl _ _ _ _ _ h1 hb
        exact h2.trans (evSeqD_st hcl os _ _ _ _ _ _ h' (Nat.le_trans hb h2.1))
      · cases h'
theorem evB_st {e : Ctx → Nat → Code → Tr AV → Mem → RC} (he : CodeSt e) {cl : Nat → List AV → Mem → RV} {c : Ctx} (hcl : CallSt c cl) {nt : Nat} : ∀ (n : Nat) (x : Code) (tm tm' : Tr AV) (ds ds' : List (Nat × List AV)) (m m' : Mem) (r : EX), evB e cl c nt n x tm ds m = .ok r tm' ds' m' → c.bar ≤ m.cnt → Stat c m m'
  | 0, x, tm, tm', ds, ds', m, m', r, h, _ => by cases h
  | n + 1, x, tm, tm', ds, ds', m, m', r, h, hb => by
    have h' : evB1 e cl c nt (evB e cl c nt n) x tm ds m = RB.ok r tm' ds' m' := h
    unfold evB1 at h'
    split at h'
    · split at h'
      · rename_i tm1 ds1 m1 h1
        have h2 := evB_st he hcl n _ _ _ _ _ _ _ _ h1 hb
        exact h2.trans (evB_st he hcl n _ _ _ _ _ _ _ _ h' (Nat.le_trans hb h2.1))
      · exact evB_st he hcl n _ _ _ _ _ _ _ _ h' hb
    · split at h'
      · rename_i tm1 ds1 m1 h1
        injection h' with _ _ _ h2
        subst h2
        exact evSeqD_st hcl _ _ _ _ _ _ _ h1 hb
      · cases h'
    · split at h'
      · rename_i r1 tm1 m1 h1
        injection h' with _ _ _ h2
        subst h2
        exact he _ _ _ _ _ _ _ _ h1 hb
      · cases h'
theorem offEnd_ok {c : Ctx} {fn : Func} {r : RC} {m' : Mem} (h : offEnd c fn r = some m') : ∃ x tm l, (x = .normal ∨ x = .ret) ∧ r = .ok x tm m' ∧ evResults c tm m' fn.results.toList = some l := by
  unfold offEnd at h
  split at h
  · rename_i tm m
    split at h
    · rename_i l hl
      injection h with h
      subst h
      exact ⟨.normal, tm, l, .inl rfl, rfl, hl⟩
    · cases h
  · rename_i tm m
    split at h
    · rename_i l hl
      injection h with h
      subst h
      exact ⟨.ret, tm, l, .inr rfl, rfl, hl⟩
    · cases h
  · cases h
theorem evOff_st {e : Ctx → Nat → Code → Tr AV → Mem → RC} (he : CodeSt e) {cl : Nat → List AV → Mem → RV} {c : Ctx} (hcl : CallSt c cl) {f : Nat} {args : List AV} {m m' : Mem} (h : evOff e cl c f args m = some m') (hb : c.bar ≤ m.cnt) : Stat c m m' := by
  unfold evOff at h
  split at h
  · rename_i fn _
    split at h
    · rename_i x _
      cases hl : Nat.ble args.length fn.ntmps <;> rw [hl] at h
      · cases h
      simp only [cond_true] at h
      split at h
      · split at h
        · rename_i o os _
          cases hir : isRecover o <;> rw [hir] at h
          · obtain ⟨x, tm, l, _, h1, _⟩ := offEnd_ok h
            exact he _ _ _ _ _ _ _ _ h1 hb
          · simp only [cond_true] at h
            split at h
            · split at h
              · rename_i tm2 m2 h2
                have h3 := evSeq_st hcl _ _ _ _ _ h2 hb
                obtain ⟨x, tm, l, _, h1, _⟩ := offEnd_ok h
                exact h3.trans (he _ _ _ _ _ _ _ _ h1 (Nat.le_trans hb h3.1))
              · cases h
            · cases h
        · cases h
      · obtain ⟨x, tm, l, _, h1, _⟩ := offEnd_ok h
        exact he _ _ _ _ _ _ _ _ h1 hb
    · cases h
  · cases h
theorem evOffs_st {e : Ctx → Nat → Code → Tr AV → Mem → RC} (he : CodeSt e) {cl : Nat → List AV → Mem → RV} {c : Ctx} (hcl : CallSt c cl) : ∀ (ds : List (Nat × List AV)) (m m' : Mem), evOffs e cl c ds m = some m' → c.bar ≤ m.cnt → Stat c m m'
  | [], m, m', h, _ => by
    have h' : some m = some m' := h
    injection h' with h'
    subst h'
    exact Stat.refl _ _
  | d :: ds, m, m', h, hb => by
    have h' : (match evOff e cl c d.1 d.2 m with
      | some m1 => evOffs e cl c ds m1
      | none => none) = some m' := h
    split at h'
    · rename_i m1 h1
      have h2 := evOff_st he hcl h1 hb
      exact h2.trans (evOffs_st he hcl ds _ _ h' (Nat.le_trans hb h2.1))
    · cases h'
theorem callD_ok {e : Ctx → Nat → Code → Tr AV → Mem → RC} {cl : Nat → List AV → Mem → RV} {c : Ctx} {fn : Func} {x : Code} {args : List AV} {m m' : Mem} {v : AV} (h : callD e cl c fn x args m = .ok v m') : ∃ r tm ds m1 l, (r = .normal ∨ r = .ret) ∧ evB e cl c fn.ntmps 1000 x (treeOf args 0 .e) [] m = .ok r tm ds m1 ∧ evOffs e cl c ds m1 = some m' ∧ evResults c tm m' fn.results.toList = some l ∧ v = oneOr l := by
  unfold callD at h
  split at h
  · cases h
  · rename_i r tm ds m1 hne hev
    split at h
    · rename_i m2 h2
      split at h
      · rename_i l hl
        injection h with h3 h4
        subst h3; subst h4
        refine ⟨r, tm, ds, m1, l, ?_, hev, h2, hl, rfl⟩
        cases r with
        | normal => exact .inl rfl
        | ret => exact .inr rfl
        | exit i => exact absurd rfl (hne i)
      · cases h
    · cases h
  · cases h
theorem callF_st {ext : Ext} (hx : ∀ c, CallSt c (ext c)) {e : Ctx → Nat → Code → Tr AV → Mem → RC} (he : CodeSt e) {cl : Ctx → Nat → List AV → Mem → RV} (hcl : ∀ c, CallSt c (cl c)) (c : Ctx) : CallSt c (callF ext e cl c) := by
  intro f args m v m' h hb
  unfold callF at h
  split at h
  · rename_i v1 m1 hext
    injection h with h1 h2; subst h1; subst h2
    exact hx c _ _ _ _ _ hext hb
  split at h
  · rename_i fn hfn
    split at h
    · rename_i x hx
      cases hl : Nat.ble args.length fn.ntmps <;> rw [hl] at h
      · cases h
      simp only [cond_true] at h
      cases hd : hasD 1000 x <;> rw [hd] at h
      · simp only [cond_false] at h
        split at h
        · rename_i tm m1 hev
          split at h
          · injection h with _ h2; subst h2; exact he _ _ _ _ _ _ _ _ hev hb
          · cases h
        · rename_i tm m1 hev
          split at h
          · injection h with _ h2; subst h2; exact he _ _ _ _ _ _ _ _ hev hb
          · cases h
        · cases h
      · simp only [cond_true] at h
        obtain ⟨r, tm, ds, m1, l, _, h1, h2, _, _⟩ := callD_ok h
        have h3 := evB_st he (hcl c) _ _ _ _ _ _ _ _ _ h1 hb
        exact h3.trans (evOffs_st he (hcl c) _ _ _ h2 (Nat.le_trans hb h3.1))
    · cases h
  · cases h
theorem loopF_st {c : Ctx} {e : Tr AV → Mem → RC} (he : ∀ tm m r tm' m', e tm m = .ok r tm' m' → c.bar ≤ m.cnt → Stat c m m') : ∀ (n : Nat) (tm : Tr AV) (m : Mem) (r : EX) (tm' : Tr AV) (m' : Mem), loopF e n tm m = .ok r tm' m' → c.bar ≤ m.cnt → Stat c m m'
  | 0, tm, m, r, tm', m', h, _ => by cases h
  | n + 1, tm, m, r, tm', m', h, hb => by
    have h' : (match e tm m with
      | .ok .normal tm1 m1 => loopF e n tm1 m1
      | r => r) = RC.ok r tm' m' := h
    split at h'
    · rename_i tm1 m1 h1
      have h2 := he _ _ _ _ _ h1 hb
      exact h2.trans (loopF_st he n _ _ _ _ _ h' (Nat.le_trans hb h2.1))
    · exact he _ _ _ _ _ h' hb
theorem codeF_st {e : Ctx → Nat → Code → Tr AV → Mem → RC} (he : CodeSt e) {cl : Ctx → Nat → List AV → Mem → RV} (hcl : ∀ c, CallSt c (cl c)) : CodeSt (codeF e cl) := by
  intro c nt x tm m r tm' m' h hb
  unfold codeF at h
  split at h
  · injection h with _ _ h; subst h; exact Stat.refl _ _
  · injection h with _ _ h; subst h; exact Stat.refl _ _
  · rename_i id ops draw
    obtain ⟨_, h⟩ := ofRT_ok h
    cases draw
    · exact evSeq_st (hcl c) _ _ _ _ _ h hb
    · exact evDrawn_st hcl h hb
  · split at h
    · rename_i tm1 m1 h1
      have h2 := he _ _ _ _ _ _ _ _ h1 hb
      exact h2.trans (he _ _ _ _ _ _ _ _ h (Nat.le_trans hb h2.1))
    · exact he _ _ _ _ _ _ _ _ h hb
  · split at h
    · rename_i t _
      cases t
      · exact he _ _ _ _ _ _ _ _ h hb
      · exact he _ _ _ _ _ _ _ _ h hb
    · cases h
  · split at h
    · rename_i i tm1 m1 h1
      have h2 := he _ _ _ _ _ _ _ _ h1 hb
      rename_i id _ _
      cases hid : Nat.beq i id <;> rw [hid] at h
      · injection h with _ _ h; subst h; exact h2
      · injection h with _ _ h; subst h; exact h2
    · exact he _ _ _ _ _ _ _ _ h hb
  · exact loopF_st (fun _ _ _ _ _ h hb => he _ _ _ _ _ _ _ _ h hb) _ _ _ _ _ _ h hb
  · injection h with _ _ h; subst h; exact Stat.refl _ _
  · injection h with _ _ h; subst h; exact Stat.refl _ _
  · exact he _ _ _ _ _ _ _ _ h hb
  · cases h
theorem lev_st {ext : Ext} (hx : ∀ c, CallSt c (ext c)) : ∀ n, CodeSt (ev ext n) ∧ ∀ c, CallSt c (evCalls ext n c)
  | 0 => ⟨fun c nt x tm m r tm' m' h => (by cases h), fun c f args m v m' h => (by cases h)⟩
  | n + 1 => by
    obtain ⟨h1, h2⟩ := lev_st hx n
    have h3 : ∀ c, CallSt c (callF ext (ev ext n) (evCalls ext n) c) := callF_st hx h1 h2
    exact ⟨codeF_st h1 h3, h3⟩

end Go.Proofs.YtajmkdbokdjmeaaGreat
/- An evaluator: what it tells of code and calls is so. Kit only. -/
namespace Go.Proofs.YtajmkdbokdjmeaaGreat
open Go.RowKit
theorem evLoad_var {c : Ctx} {ρ : Env} {m : Mem} {W : World} {t : TypeId} {x v : AV} {X : Value} (h : evLoad c t x m = some v) (hx : Rep ρ x X) (hr : HRep c ρ m W) : ∃ ad V, X = .pointer (some ad) ∧ (loadVar t ad).run c.P W = .ok V W ∧ Rep ρ v V := by
  obtain ⟨V, h1, h2⟩ := evLoad_ok h hx hr
  unfold evLoad at h
  split at h
  · rw [Rep] at hx
    obtain ⟨g, k, _, rfl⟩ := hx
    refine ⟨_, V, rfl, ?_, h2⟩
    unfold Instr.loadAt Instr.sureAddr at h1
    simpa using h1
  · cases h
/-- A result's value. -/
def resOf (tmps : Array Value) (r : ResultVar) : Sem Value :=
  match r with
  | .tmp t => pure (tmps.getD t undef)
  | .cell a t => do loadVar t (← asAddr (tmps.getD a undef))
theorem evResults_ok {D : List Deferred} {c : Ctx} {ρ : Env} {tm : Tr AV} {nt : Nat} {a : Act} {m : Mem} {W : World} (ht : TmR D ρ tm nt a) (hr : HRep c ρ m W) : ∀ (rs : List ResultVar) (l : List AV), evResults c tm m rs = some l → ∃ L, (rs.mapM (resOf a.tmps)).run c.P W = .ok L W ∧ RepL ρ l L
  | [], l, h => by
    have h' : some [] = some l := h
    injection h' with h'
    subst h'
    exact ⟨[], by simp, by rw [RepL]⟩
  | r :: rs, l, h => by
    have h' : (match (match r with
        | .tmp t => tm.get t
        | .cell a t => match tm.get a with
          | some x => evLoad c t x m
          | none => none) with
      | some v => match evResults c tm m rs with
        | some l => some (v :: l)
        | none => none
      | none => none) = some l := h
    split at h'
    · rename_i v hv
      split at h'
      · rename_i l' hl'
        injection h' with h'
        subst h'
        obtain ⟨L, h1, h2⟩ := evResults_ok ht hr rs l' hl'
        have hv' : ∃ V, (resOf a.tmps r).run c.P W = .ok V W ∧ Rep ρ v V := by
          cases r with
          | tmp t => exact ⟨_, by unfold resOf; simp, ht.2.2 t v hv⟩
          | cell b t =>
            simp only at hv
            split at hv
            · rename_i x hx
              obtain ⟨ad, V, h3, h4, h5⟩ := evLoad_var hv (ht.2.2 b x hx) hr
              exact ⟨V, by unfold resOf; simp only [Sem.run_bind, h3, asAddr, Sem.run_pure, Result.andThen_ok]; exact h4, h5⟩
            · cases hv
        obtain ⟨V, h3, h4⟩ := hv'
        refine ⟨V :: L, ?_, by rw [RepL]; exact ⟨V, L, h4, h2, rfl⟩⟩
        rw [List.mapM_cons]
        simp only [Sem.run_bind, h3, Result.andThen_ok, h1, Sem.run_pure]
      · cases h'
    · cases h'
theorem results_ok {D : List Deferred} {c : Ctx} {ρ : Env} {tm : Tr AV} {nt : Nat} {a : Act} {m : Mem} {W : World} {fn : Func} {l : List AV} (ht : TmR D ρ tm nt a) (hr : HRep c ρ m W) (h : evResults c tm m fn.results.toList = some l) : ∃ V, (results fn a.tmps).run c.P W = .ok V W ∧ Rep ρ (oneOr l) V := by
  obtain ⟨L, h1, h2⟩ := evResults_ok ht hr _ _ h
  have hm : (fn.results.mapM (resOf a.tmps)).run c.P W = .ok L.toArray W := by
    rw [Array.mapM_eq_mapM_toList]
    simp only [Sem.run_map, h1, Result.andThen_ok]
  refine ⟨if h : L.toArray.size = 1 then L.toArray[0] else .tuple L.toArray, ?_, ?_⟩
  · show (do let vs ← fn.results.mapM (resOf a.tmps); pure (if h : vs.size = 1 then vs[0] else .tuple vs) : Sem Value).run c.P W = _
    simp only [Sem.run_bind, hm, Result.andThen_ok, Sem.run_pure]
  · match l, h2 with
    | [], h2 =>
      rw [RepL] at h2
      subst h2
      show Rep ρ (.tup []) _
      rw [Rep]
      exact ⟨[], by rw [RepL], rfl⟩
    | [v], h2 =>
      rw [RepL] at h2
      obtain ⟨V, M, h3, h4, rfl⟩ := h2
      rw [RepL] at h4
      subst h4
      exact h3
    | v :: w :: l, h2 =>
      have hlen := h2.length
      show Rep ρ (.tup (v :: w :: l)) _
      rw [dif_neg (by simp; simp at hlen; omega), Rep]
      exact ⟨L, h2, rfl⟩
def ExtOK (P : Program) (ext : Ext) : Prop := (∀ c, c.P = P → CallOK c (ext c)) ∧ ∀ c, CallSt c (ext c)
theorem noExt_ok (P : Program) : ExtOK P noExt := ⟨fun _ _ _ _ _ _ _ h => (by cases h), fun _ _ _ _ _ _ h => (by cases h)⟩
def CodeOK (P : Program) (e : Ctx → Nat → Code → Tr AV → Mem → RC) : Prop :=
  ∀ c, c.P = P → ∀ nt x tm m r tm' m', e c nt x tm m = .ok r tm' m' → ∀ (D : List Deferred) ρ a W (Q : Exit → Act → World → Prop), TmR D ρ tm nt a → HRep c ρ m W → c.bar ≤ m.cnt → m.wf → Free ρ m.cnt m'.cnt →
    (∀ a' W' ρ', TmR D ρ' tm' nt a' → Stp c ρ m W ρ' m' W' → Q r.toExit a' W') → Code.wp c.P x Q a W
theorem wpOp_norm {P : Program} {ops : Array Oper} {R Q : Exit → Act → World → Prop} {i : Nat} {K : Act → World → Prop} {a : Act} {w : World} (h : wpOp P ops (NormQ R) i K a w) : wpOp P ops Q i K a w := by
  unfold wpOp at *
  split
  · rename_i ho
    simp only [ho] at h
    exact h
  · rename_i o ho
    simp only [ho] at h
    split
    · rename_i hw
      simp only [hw, if_true] at h
      rcases h with h | ⟨_, h⟩
      · left
        unfold Oper.wp at *
        generalize (execOp a.eval o).run P w = r at *
        cases r with
        | ok n w' =>
          cases n <;> simp only [Oper.upon] at h ⊢ <;> first
            | exact h
            | exact Calls.mono h (fun e w2 he => by
                cases e with
                | returned v => exact he
                | panicked ch => cases he.1
                | outgrown => exact absurd he NormQ.out)
        | halt x w' =>
          cases x <;> simp only [Oper.upon] at h ⊢
          cases h.1
      · exact absurd h NormQ.out
    · rename_i hw
      simp only [hw] at h
      exact h
def DefOne (P : Program) (ρ : Env) (d : Nat × List AV) (x : Deferred) : Prop :=
  ∃ fv cap L, x.target = .fn fv cap ∧ RepL ρ d.2 L ∧ ∀ W, (invoke x.target x.args).run P W = .ok (.enter d.1 L.toArray) W
inductive DefR (P : Program) (ρ : Env) : List (Nat × List AV) → List Deferred → Prop
  | nil : DefR P ρ [] []
  | cons {d : Nat × List AV} {x : Deferred} {ds : List (Nat × List AV)} {D : List Deferred} : DefOne P ρ d x → DefR P ρ ds D → DefR P ρ (d :: ds) (x :: D)
theorem DefR.mono {P : Program} {ρ ρ' : Env} (hle : ρ.le ρ') {ds : List (Nat × List AV)} {D : List Deferred} (h : DefR P ρ ds D) : DefR P ρ' ds D := by
  induction h with
  | nil => exact .nil
  | cons h1 _ ih =>
    obtain ⟨fv, cap, L, h2, h3, h4⟩ := h1
    exact .cons ⟨fv, cap, L, h2, RepL.mono hle _ _ h3, h4⟩ ih
theorem putOff_ok {c : Ctx} {ρ : Env} {env : Nat → Option AV} {o : Oper} {d : Nat × List AV} {a : Act} {W : World} (h : putOff c env o = some d) (hE : EvR ρ env a) (hg : ∀ g, g < c.ng → ∃ k, ρ g = some (g, k)) :
    o.guard = none ∧ ∃ x, DefOne c.P ρ d x ∧ (execOp a.eval o).run c.P W = .ok (.defer x) W := by
  unfold putOff at h
  split at h
  · rename_i k ho
    split at h
    · rename_i f hgd hk
      split at h
      · rename_i fn l args h1 h2
        cases hm : mayEnter c.P fn <;> rw [hm] at h
        · cases h
        simp only [cond_true] at h
        injection h with h
        subst h
        have hF := opd_rep hE hg h1
        have hA := opds_rep hE hg _ _ h2
        rw [Rep] at hF
        obtain ⟨L, hL, hF⟩ := hF
        refine ⟨hgd, { target := .fn (.func fn) L.toArray, args := k.args.map a.eval }, ⟨.func fn, L.toArray, k.args.toList.map a.eval ++ L, rfl, hA.app _ _ _ _ hL, fun W => ?_⟩, ?_⟩
        · have := mayEnter_run hm (k.args.map a.eval ++ L.toArray) W
          have he : (k.args.map a.eval ++ L.toArray) = (List.map a.eval k.args.toList ++ L).toArray := by
            apply Array.ext'
            simp
          rw [← he]
          simpa [invoke] using this
        · unfold execOp
          simp only [ho]
          simp [resolve, hk, hF, Deferred.ofValue]
      · cases h
    · cases h
  · cases h
theorem evSeqD_ok {c : Ctx} {cl : Nat → List AV → Mem → RV} {nt : Nat} {ops : Array Oper} (hcl : CallOK c cl) (hst : CallSt c cl) {Q : Exit → Act → World → Prop} : ∀ (os : List Oper) (idx : List Nat) (tm tm' : Tr AV) (ds ds' : List (Nat × List AV)) (m m' : Mem) (D : List Deferred) (ρ : Env) (a : Act) (W : World),
    idx.map (fun i => ops[i]?) = os.map some → evSeqD c cl nt ops os tm ds m = .ok tm' ds' m' → TmR D ρ tm nt a → DefR c.P ρ ds D → HRep c ρ m W → c.bar ≤ m.cnt → m.wf → Free ρ m.cnt m'.cnt →
    (∀ a' W' ρ' D', TmR D' ρ' tm' nt a' → DefR c.P ρ' ds' D' → Stp c ρ m W ρ' m' W' → Q .normal a' W') → wpOps c.P ops Q idx a W
  | [], idx, tm, tm', ds, ds', m, m', D, ρ, a, W, hidx, h, ht, hD, hr, hb, hw, hf, hQ => by
    have h' : RD.ok tm ds m = .ok tm' ds' m' := h
    injection h' with h1 h2 h3
    subst h1; subst h2; subst h3
    have : idx = [] := by simpa using hidx
    subst this
    exact hQ a W ρ D ht hD (Stp.refl hr)
  | o :: os, idx, tm, tm', ds, ds', m, m', D, ρ, a, W, hidx, h, ht, hD, hr, hb, hw, hf, hQ => by
    have h' : (match putOff c tm.get o with
      | some d => (match evPut nt tm o.dst (.tup []) with
        | some tm' => evSeqD c cl nt ops os tm' (d :: ds) m
        | none => .fail)
      | none => (match evSeq c cl nt ops [o] tm m with
        | .ok tm' m' => evSeqD c cl nt ops os tm' ds m'
        | .fail => .fail)) = RD.ok tm' ds' m' := h
    match idx, hidx with
    | i :: rest, hidx =>
    simp only [List.map_cons, List.cons.injEq] at hidx
    obtain ⟨hi, hrest⟩ := hidx
    rw [wpOps_cons]
    split at h'
    · rename_i d hd
      obtain ⟨hg, x, hx, hrun⟩ := putOff_ok (W := W) hd ht.2.2 hr.glo
      split at h'
      · rename_i tm1 hput
        have hu : Rep ρ (.tup []) undef := by rw [Rep]; exact ⟨[], by rw [RepL], rfl⟩
        have hwt : Region.wanted o (yielded ops a.tmps) = true := by unfold Region.wanted; rw [hg]
        unfold wpOp
        simp only [hi, hwt, if_true]
        left
        unfold Oper.wp
        rw [hrun, Oper.upon_defer]
        have ht1 : TmR (x :: D) ρ tm nt { a with defers := x :: a.defers } := ⟨ht.1, by show x :: a.defers = x :: D; rw [ht.2.1], ht.2.2⟩
        exact evSeqD_ok hcl hst os rest tm1 tm' (d :: ds) ds' m m' (x :: D) ρ _ W hrest h' (evPut_ok hput ht1 hu (Env.le_refl ρ)) (.cons hx hD) hr hb hw hf hQ
      · cases h'
    · split at h'
      · rename_i tm1 m1 h1
        have st2 := evSeqD_st hst os _ _ _ _ _ _ h' (Nat.le_trans hb (evSeq_st hst _ _ _ _ _ h1 hb).1)
        have h2 := evSeq_ok (Q := NormQ fun _ a w => wpOps c.P ops Q rest a w) hcl [o] [i] tm tm1 m m1 ρ a W (by simp [hi]) h1 ht hr hb hw (hf.mono (Nat.le_refl _) st2.1) (fun a1 W1 ρ1 ht1 hs1 => ⟨rfl, ?_⟩)
        · rw [wpOps_cons] at h2
          refine wpOp_norm (R := fun _ a w => wpOps c.P ops Q rest a w) (wpOp_mono (fun a1 W1 hk => ?_) h2)
          exact hk.2
        · exact evSeqD_ok hcl hst os rest tm1 tm' ds ds' m1 m' D ρ1 a1 W1 hrest h' ht1 (hD.mono hs1.le) hs1.rep (Nat.le_trans hb hs1.cnt) (hs1.wf hw) (hf.stp hs1) (fun a2 W2 ρ2 D2 ht2 hD2 hs2 => hQ a2 W2 ρ2 D2 ht2 hD2 (hs1.trans hs2))
      · cases h'
theorem evB_ok {P : Program} {e : Ctx → Nat → Code → Tr AV → Mem → RC} (he : CodeOK P e) (hs : CodeSt e) {cl : Nat → List AV → Mem → RV} {c : Ctx} (hc : c.P = P) (hcl : CallOK c cl) (hst : CallSt c cl) {nt : Nat} : ∀ (n : Nat) (x : Code) (tm tm' : Tr AV) (ds ds' : List (Nat × List AV)) (m m' : Mem) (r : EX) (D : List Deferred) (ρ : Env) (a : Act) (W : World) (Q : Exit → Act → World → Prop), evB e cl c nt n x tm ds m = .ok r tm' ds' m' →
    TmR D ρ tm nt a → DefR c.P ρ ds D → HRep c ρ m W → c.bar ≤ m.cnt → m.wf → Free ρ m.cnt m'.cnt →
    (∀ a' W' ρ' D', TmR D' ρ' tm' nt a' → DefR c.P ρ' ds' D' → Stp c ρ m W ρ' m' W' → Q r.toExit a' W') → Code.wp c.P x Q a W
  | 0, x, tm, tm', ds, ds', m, m', r, D, ρ, a, W, Q, h, ht, hD, hr, hb, hw, hf, hQ => by cases h
  | n + 1, x, tm, tm', ds, ds', m, m', r, D, ρ, a, W, Q, h, ht, hD, hr, hb, hw, hf, hQ => by
    have h' : evB1 e cl c nt (evB e cl c nt n) x tm ds m = RB.ok r tm' ds' m' := h
    unfold evB1 at h'
    split at h'
    · refine wp_seq ?_
      split at h'
      · rename_i tm1 ds1 m1 h1
        have st1 := evB_st hs hst n _ _ _ _ _ _ _ _ h1 hb
        have st2 := evB_st hs hst n _ _ _ _ _ _ _ _ h' (Nat.le_trans hb st1.1)
        refine evB_ok he hs hc hcl hst n _ _ _ _ _ _ _ _ D ρ a W _ h1 ht hD hr hb hw (hf.mono (Nat.le_refl _) st2.1) (fun a1 W1 ρ1 D1 ht1 hD1 hs1 => ?_)
        exact evB_ok he hs hc hcl hst n _ _ _ _ _ _ _ _ D1 ρ1 a1 W1 Q h' ht1 hD1 hs1.rep (Nat.le_trans hb hs1.cnt) (hs1.wf hw) (hf.stp hs1) (fun a2 W2 ρ2 D2 ht2 hD2 hs2 => hQ a2 W2 ρ2 D2 ht2 hD2 (hs1.trans hs2))
      · rename_i hne
        refine evB_ok he hs hc hcl hst n _ _ _ _ _ _ _ _ D ρ a W _ h' ht hD hr hb hw hf (fun a1 W1 ρ1 D1 ht1 hD1 hs1 => ?_)
        have := hQ a1 W1 ρ1 D1 ht1 hD1 hs1
        cases r with
        | normal => exact absurd h' (hne _ _ _)
        | exit i => exact this
        | ret => exact this
    · rename_i id ops
      split at h'
      · rename_i tm1 ds1 m1 h1
        injection h' with g1 g2 g3 g4
        subst g1; subst g2; subst g3; subst g4
        refine wp_region (evSeqD_ok hcl hst ops.toList (List.range ops.size) tm _ ds _ m _ D ρ a W ?_ h1 ht hD hr hb hw hf hQ)
        apply List.ext_getElem?
        intro k
        rw [List.getElem?_map, List.getElem?_map]
        have hk2 : ops.toList[k]? = ops[k]? := by simp
        rw [hk2]
        by_cases hk : k < ops.size
        · rw [List.getElem?_range hk, Array.getElem?_eq_getElem hk]
          simp [hk]
        · rw [List.getElem?_eq_none (by simp; omega), Array.getElem?_eq_none (by omega)]
          rfl
      · cases h'
    · split at h'
      · rename_i r1 tm1 m1 h1
        injection h' with g1 g2 g3 g4
        subst g1; subst g2; subst g3; subst g4
        exact he c hc _ _ _ _ _ _ _ h1 D ρ a W Q ht hr hb hw hf (fun a1 W1 ρ1 ht1 hs1 => hQ a1 W1 ρ1 D ht1 (hD.mono hs1.le) hs1)
      · cases h'
theorem opsS_of {P : Program} {ops : Array Oper} {Q : Exit → Act → List Frame → World → Prop} {cs : List Frame} : ∀ (l : List Nat) (a : Act) (w : World), wpOps P ops (NormQ fun e a w => Q e a cs w) l a w → wpOpsS P ops Q l a cs w
  | [], a, w, h => h.2
  | i :: rest, a, w, h => by
    unfold wpOps at h
    unfold wpOpsS
    split
    · rename_i ho
      simp only [ho] at h
      exact opsS_of rest a w h
    · rename_i o ho
      simp only [ho] at h
      split
      · rename_i hw
        simp only [hw, if_true] at h
        rcases h with h | ⟨_, h⟩
        · unfold Oper.wp at h
          generalize (execOp a.eval o).run P w = r at *
          split
          · simp only [Oper.upon] at h
          · cases r with
            | ok n w' =>
              cases n <;> simp only [Oper.upon] at h ⊢ <;> first
                | exact opsS_of rest _ _ h
                | exact Calls.mono h (fun e w2 he => by
                    cases e with
                    | returned v => exact opsS_of rest _ _ he
                    | panicked ch => cases he.1
                    | outgrown => exact absurd he NormQ.out)
                | exact Rows.mono h (fun _ _ he => opsS_of rest _ _ he)
            | halt x w' =>
              cases x <;> simp only [Oper.upon] at h ⊢
              cases h.1
        · exact absurd h NormQ.out
      · rename_i hw
        simp only [hw] at h
        exact opsS_of rest _ _ h
theorem enter_tm {ρ : Env} {args : List AV} {ARGS : List Value} {nt : Nat} (hA : RepL ρ args ARGS) (hle : args.length ≤ nt) : TmR [] ρ (treeOf args 0 .e) nt { tmps := ARGS.toArray ++ Array.replicate (nt - ARGS.toArray.size) undef, defers := [] } := by
  have hAl := hA.length
  refine ⟨by simp; omega, rfl, fun t u hu => ?_⟩
  obtain ⟨V, h1, h2⟩ := treeOf_rep hA t u hu
  have hlt := (Array.getElem?_eq_some_iff.1 h1).1
  show Rep ρ u ((ARGS.toArray ++ Array.replicate (nt - ARGS.toArray.size) undef).getD t undef)
  rw [Array.getD_eq_getD_getElem?, Array.getElem?_append_left hlt, h1]
  exact h2
theorem ran_ok {P : Program} {e : Ctx → Nat → Code → Tr AV → Mem → RC} (he : CodeOK P e) {c : Ctx} (hc : c.P = P) {fn : Func} {x : Code} {tm0 tm : Tr AV} {m m' : Mem} {r : EX} {l : List AV} (hre : r = .normal ∨ r = .ret) (hev : e c fn.ntmps x tm0 m = .ok r tm m') (hl : evResults c tm m' fn.results.toList = some l)
    {ρ : Env} {a : Act} {W : World} (ht : TmR [] ρ tm0 fn.ntmps a) (hr : HRep c ρ m W) (hb : c.bar ≤ m.cnt) (hw : m.wf) (hf : Free ρ m.cnt m'.cnt) {Q : Exit → Act → World → Prop}
    (hQ : ∀ (ex : Exit) a' W' ρ', (ex = .normal ∨ ex = .ret) → a'.defers = [] → Stp c ρ m W ρ' m' W' → (∃ v, (results fn a'.tmps).run c.P W' = .ok v W') → Q ex a' W') : Code.wp c.P x Q a W :=
  he c hc _ _ _ _ _ _ _ hev [] ρ a W Q ht hr hb hw hf (fun a' W' ρ' ht' hs' => by
    obtain ⟨V, h3, _⟩ := results_ok ht' hs'.rep hl
    refine hQ _ a' W' ρ' ?_ ht'.2.1 hs' ⟨V, h3⟩
    rcases hre with rfl | rfl
    · exact .inl rfl
    · exact .inr rfl)
theorem isRecover_ok {o : Oper} (h : isRecover o = true) : o.guard = none ∧ ∃ k, o.op = .call k ∧ k.callee = .builtin .recover := by
  unfold isRecover at h
  split at h
  · rename_i k ho hg
    split at h
    · rename_i hk
      exact ⟨hg, k, ho, hk⟩
    · cases h
  · cases h
theorem evOff_ok {P : Program} {e : Ctx → Nat → Code → Tr AV → Mem → RC} (he : CodeOK P e) (hs : CodeSt e) {cl : Nat → List AV → Mem → RV} {c : Ctx} (hc : c.P = P) (hcl : CallOK c cl) (hst : CallSt c cl) {f : Nat} {args : List AV} {m m' : Mem} (h : evOff e cl c f args m = some m') {ρ : Env} {ARGS : List Value} {W : World} (hA : RepL ρ args ARGS) (hr : HRep c ρ m W) (hb : c.bar ≤ m.cnt) (hw : m.wf) (hf : Free ρ m.cnt m'.cnt) :
    CallsD c.P f ARGS.toArray .returning W fun ex u' W' => ∃ V ρ', ex = .returned V ∧ u' = .returning ∧ Stp c ρ m W ρ' m' W' := by
  unfold evOff at h
  split at h
  · rename_i fn hfn
    split at h
    · rename_i x hx
      cases hl : Nat.ble args.length fn.ntmps <;> rw [hl] at h
      · cases h
      simp only [cond_true] at h
      have ht := enter_tm hA (Nat.le_of_ble_eq_true hl)
      have plain : ∀ y, fn.body = some y → offEnd c fn (e c fn.ntmps y (treeOf args 0 .e) m) = some m' → CallsD c.P f ARGS.toArray .returning W fun ex u' W' => ∃ V ρ', ex = .returned V ∧ u' = .returning ∧ Stp c ρ m W ρ' m' W' := by
        intro y hy hend
        obtain ⟨r, tm, l, hre, hev, hres⟩ := offEnd_ok hend
        refine CallsD.mono (callsD_of_wp (R := fun ex W' => ∃ V ρ', ex = .returned V ∧ Stp c ρ m W ρ' m' W') hfn hy (ran_ok he hc hre hev hres ht hr hb hw hf (fun ex a' W' ρ' hex hd hs' hv => ?_))) ?_
        · obtain ⟨v, hv⟩ := hv
          rcases hex with rfl | rfl
          · exact ⟨hd, v, hv, v, ρ', rfl, hs'⟩
          · exact ⟨hd, v, hv, v, ρ', rfl, hs'⟩
        · rintro ex u' W' ⟨hu, V, ρ', h1, h2⟩
          exact ⟨V, ρ', h1, hu, h2⟩
      split at h
      · rename_i id ops rest
        split at h
        · rename_i o os hops
          cases hir : isRecover o <;> rw [hir] at h
          · exact plain _ hx h
          · simp only [cond_true] at h
            obtain ⟨hg, k, ho, hk⟩ := isRecover_ok hir
            split at h
            · rename_i tm1 hput
              split at h
              · rename_i tm2 m2 hseq
                obtain ⟨r, tm, l, hre, hev, hres⟩ := offEnd_ok h
                have st1 := evSeq_st hst _ _ _ _ _ hseq hb
                have st2 := hs _ _ _ _ _ _ _ _ hev (Nat.le_trans hb st1.1)
                refine callsD_of_wpS hfn hx fun c₀ cs hu => ?_
                apply wpS_seq
                apply wpS_region
                have hsz : ops.size = os.length + 1 := by rw [← Array.length_toList, hops]; rfl
                have hops2 : ∀ q, ops[q]? = (o :: os)[q]? := fun q => by rw [← Array.getElem?_toList, hops]
                have hrange : List.range ops.size = 0 :: List.range' 1 os.length := by
                  rw [hsz, List.range_eq_range', List.range'_succ]
                rw [hrange]
                unfold wpOpsS
                have h0 : ops[0]? = some o := by rw [hops2]; rfl
                have hwt : Region.wanted o (yielded ops ({ tmps := ARGS.toArray ++ Array.replicate (fn.ntmps - ARGS.toArray.size) undef, defers := [] } : Act).tmps) = true := by unfold Region.wanted; rw [hg]
                have hrun : (execOp (Act.eval { tmps := ARGS.toArray ++ Array.replicate (fn.ntmps - ARGS.toArray.size) undef, defers := [] }) o).run c.P W = .ok .recover W := by
                  unfold execOp
                  simp only [ho]
                  simp [resolve, hk, invoke, builtin]
                have hrec : recoverD (c₀ :: cs) = none := by simp [recoverD, hu]
                simp only [h0, hwt, if_true, hrun, hrec]
                apply opsS_of
                have hnil : Rep ρ .niliface .nilIface := by rw [Rep]
                refine evSeq_ok hcl os (List.range' 1 os.length) tm1 tm2 m m2 ρ _ W ?_ hseq (evPut_ok hput ht hnil (Env.le_refl ρ)) hr hb hw (hf.mono (Nat.le_refl _) st2.1) (fun a1 W1 ρ1 ht1 hs1 => ⟨rfl, ?_⟩)
                · apply List.ext_getElem?
                  intro q
                  rw [List.getElem?_map, List.getElem?_map]
                  by_cases hq : q < os.length
                  · rw [List.getElem?_range' hq]
                    simp only [Option.map_some, Nat.one_mul]
                    rw [hops2, Nat.add_comm 1 q, List.getElem?_cons_succ, List.getElem?_eq_getElem hq]
                    rfl
                  · rw [List.getElem?_eq_none (by simp; omega), List.getElem?_eq_none (by omega)]
                    rfl
                · refine wpS_of_wp (ran_ok he hc hre hev hres ht1 hs1.rep (Nat.le_trans hb hs1.cnt) (hs1.wf hw) (hf.stp hs1) (fun ex a' W' ρ' hex hd hs' hv => ?_))
                  obtain ⟨v, hv⟩ := hv
                  have hcs : c₀ :: cs = { c₀ with mode := .returning } :: cs := by
                    cases c₀
                    simp only at hu
                    subst hu
                    rfl
                  rcases hex with rfl | rfl
                  · exact ⟨hd, .returning, hcs, v, hv, v, ρ', rfl, rfl, hs1.trans hs'⟩
                  · exact ⟨hd, .returning, hcs, v, hv, v, ρ', rfl, rfl, hs1.trans hs'⟩
              · cases h
            · cases h
        · cases h
      · exact plain _ hx h
    · cases h
  · cases h
theorem evOffs_ok {P : Program} {e : Ctx → Nat → Code → Tr AV → Mem → RC} (he : CodeOK P e) (hs : CodeSt e) {cl : Nat → List AV → Mem → RV} {c : Ctx} (hc : c.P = P) (hcl : CallOK c cl) (hst : CallSt c cl) {fn : Func} {tmps : Array Value} {R : Ending → World → Prop} {ds : List (Nat × List AV)} {D : List Deferred} {ρ0 : Env} (hD : DefR c.P ρ0 ds D) : ∀ (m m' : Mem) (ρ : Env) (W : World), evOffs e cl c ds m = some m' → ρ0.le ρ → HRep c ρ m W → c.bar ≤ m.cnt → m.wf → Free ρ m.cnt m'.cnt →
    (∀ W' ρ', Stp c ρ m W ρ' m' W' → ∃ v, (results fn tmps).run c.P W' = .ok v W' ∧ R (.returned v) W') → Leaves c.P fn tmps R D .returning W := by
  induction hD with
  | nil =>
    intro m m' ρ W h hle hr hb hw hf hQ
    have h' : some m = some m' := h
    injection h' with h'
    subst h'
    exact hQ W ρ (Stp.refl hr)
  | @cons d x ds D hx hD ih =>
    intro m m' ρ W h hle hr hb hw hf hQ
    have h' : (match evOff e cl c d.1 d.2 m with
      | some m1 => evOffs e cl c ds m1
      | none => none) = some m' := h
    split at h'
    · rename_i m1 h1
      obtain ⟨fv, cap, L, htar, hL, hinv⟩ := hx
      have st1 := evOff_st hs hst h1 hb
      have st2 := evOffs_st hs hst _ _ _ h' (Nat.le_trans hb st1.1)
      obtain ⟨t, l⟩ := x
      simp only at htar
      subst htar
      refine leaves_cons (by simp) (hinv W) (CallsD.mono (evOff_ok he hs hc hcl hst h1 (RepL.mono hle _ _ hL) hr hb hw (hf.mono (Nat.le_refl _) st2.1)) ?_)
      rintro ex u' W' ⟨V, ρ', rfl, rfl, hs1⟩
      exact ih m1 m' ρ' W' h' (Env.le_trans hle hs1.le) hs1.rep (Nat.le_trans hb hs1.cnt) (hs1.wf hw) (hf.stp hs1) (fun W2 ρ2 hs2 => hQ W2 ρ2 (hs1.trans hs2))
    · cases h'
theorem callF_ok {P : Program} {ext : Ext} (hx : ExtOK P ext) {e : Ctx → Nat → Code → Tr AV → Mem → RC} (he : CodeOK P e) (hs : CodeSt e) {cl : Ctx → Nat → List AV → Mem → RV} (hcl : ∀ c, c.P = P → CallOK c (cl c)) (hst : ∀ c, CallSt c (cl c)) (c : Ctx) (hc : c.P = P) : CallOK c (callF ext e cl c) := by
  intro f args m v m' h ρ ARGS W hA hr hb hw hf
  unfold callF at h
  split at h
  · rename_i v1 m1 hext
    injection h with h1 h2; subst h1; subst h2
    exact hx.1 c hc _ _ _ _ _ hext ρ ARGS W hA hr hb hw hf
  split at h
  · rename_i fn hfn
    split at h
    · rename_i x hx
      cases hl : Nat.ble args.length fn.ntmps <;> rw [hl] at h
      · cases h
      simp only [cond_true] at h
      have ht := enter_tm hA (Nat.le_of_ble_eq_true hl)
      cases hd : hasD 1000 x <;> rw [hd] at h
      · simp only [cond_false] at h
        have fin : ∀ (r : EX) (tm : Tr AV) (m1 : Mem), (r = .normal ∨ r = .ret) → e c fn.ntmps x (treeOf args 0 .e) m = .ok r tm m1 → (match evResults c tm m1 fn.results.toList with
            | some l => RV.ok (oneOr l) m1
            | none => .fail) = RV.ok v m' → Calls c.P f ARGS.toArray W fun e W' => ∃ V ρ', e = .returned V ∧ Rep ρ' v V ∧ Stp c ρ m W ρ' m' W' := by
          intro r tm m1 hre hev hres
          split at hres
          · rename_i l hl
            injection hres with h1 h2
            subst h1; subst h2
            refine calls_of_wp hfn hx (he c hc _ _ _ _ _ _ _ hev [] ρ _ W _ ht hr hb hw hf (fun a' W' ρ' ht' hs' => ?_))
            obtain ⟨V, h3, h4⟩ := results_ok ht' hs'.rep hl
            rcases hre with rfl | rfl
            · exact ⟨ht'.2.1, V, h3, V, ρ', rfl, h4, hs'⟩
            · exact ⟨ht'.2.1, V, h3, V, ρ', rfl, h4, hs'⟩
          · cases hres
        split at h
        · rename_i tm m1 hev
          exact fin .normal tm m1 (.inl rfl) hev h
        · rename_i tm m1 hev
          exact fin .ret tm m1 (.inr rfl) hev h
        · cases h
      · simp only [cond_true] at h
        obtain ⟨r, tm, ds, m1, l, hre, h1, h2, h3, rfl⟩ := callD_ok h
        have st1 := evB_st hs (hst c) _ _ _ _ _ _ _ _ _ h1 hb
        have st2 := evOffs_st hs (hst c) _ _ _ h2 (Nat.le_trans hb st1.1)
        refine calls_of_wp_defers hfn hx (evB_ok he hs hc (hcl c hc) (hst c) 1000 x _ _ _ _ _ _ _ [] ρ _ W _ h1 ht .nil hr hb hw (hf.mono (Nat.le_refl _) st2.1) (fun a' W' ρ' D' ht' hD' hs' => ?_))
        have hL : Leaves c.P fn a'.tmps (fun e W' => ∃ V ρ', e = .returned V ∧ Rep ρ' (oneOr l) V ∧ Stp c ρ m W ρ' m' W') a'.defers .returning W' := by
          rw [ht'.2.1]
          refine evOffs_ok he hs hc (hcl c hc) (hst c) hD' m1 m' ρ' W' h2 (Env.le_refl _) hs'.rep (Nat.le_trans hb hs'.cnt) (hs'.wf hw) (hf.stp hs') (fun W2 ρ2 hs2 => ?_)
          obtain ⟨V, h4, h5⟩ := results_ok (ht'.mono hs2.le) hs2.rep h3
          exact ⟨V, h4, V, ρ2, rfl, h5, hs'.trans hs2⟩
        rcases hre with rfl | rfl
        · exact hL
        · exact hL
    · cases h
  · cases h
theorem loopF_ok {P : Program} {e : Ctx → Nat → Code → Tr AV → Mem → RC} (he : CodeOK P e) (hs : CodeSt e) {c : Ctx} (hc : c.P = P) {nt : Nat} {b : Code} : ∀ (n : Nat) (tm : Tr AV) (m : Mem) (r : EX) (tm' : Tr AV) (m' : Mem), loopF (e c nt b) n tm m = .ok r tm' m' → ∀ (D : List Deferred) ρ a W (Q : Exit → Act → World → Prop), TmR D ρ tm nt a → HRep c ρ m W → c.bar ≤ m.cnt → m.wf → Free ρ m.cnt m'.cnt →
    (∀ a' W' ρ', TmR D ρ' tm' nt a' → Stp c ρ m W ρ' m' W' → Q r.toExit a' W') → Code.rounds c.P b Q n a W
  | 0, tm, m, r, tm', m', h => by cases h
  | n + 1, tm, m, r, tm', m', h => by
    intro D ρ a W Q ht hr hb hw hf hQ
    have h' : (match e c nt b tm m with
      | .ok .normal tm1 m1 => loopF (e c nt b) n tm1 m1
      | r => r) = RC.ok r tm' m' := h
    rw [rounds_succ]
    split at h'
    · rename_i tm1 m1 h1
      have st1 := hs _ _ _ _ _ _ _ _ h1 hb
      have st2 := loopF_st (fun _ _ _ _ _ h hb => hs _ _ _ _ _ _ _ _ h hb) n _ _ _ _ _ h' (Nat.le_trans hb st1.1)
      refine he c hc _ _ _ _ _ _ _ h1 D ρ a W _ ht hr hb hw (hf.mono (Nat.le_refl _) st2.1) (fun a1 W1 ρ1 ht1 hs1 => ?_)
      exact loopF_ok he hs hc n tm1 m1 r tm' m' h' D ρ1 a1 W1 Q ht1 hs1.rep (Nat.le_trans hb hs1.cnt) (hs1.wf hw) (hf.stp hs1) (fun a2 W2 ρ2 ht2 hs2 => hQ a2 W2 ρ2 ht2 (hs1.trans hs2))
    · rename_i hne
      refine he c hc _ _ _ _ _ _ _ h' D ρ a W _ ht hr hb hw hf (fun a1 W1 ρ1 ht1 hs1 => ?_)
      have := hQ a1 W1 ρ1 ht1 hs1
      cases r with
      | normal => exact absurd h' (hne _ _)
      | exit i => exact this
      | ret => exact this
theorem codeF_ok {P : Program} {e : Ctx → Nat → Code → Tr AV → Mem → RC} (he : CodeOK P e) (hs : CodeSt e) {cl : Ctx → Nat → List AV → Mem → RV} (hcl : ∀ c, c.P = P → CallOK c (cl c)) (hst : ∀ c, CallSt c (cl c)) : CodeOK P (codeF e cl) := by
  intro c hc nt x tm m r tm' m' h D ρ a W Q ht hr hb hw hf hQ
  unfold codeF at h
  split at h
  · injection h with h1 h2 h3; subst h1; subst h2; subst h3
    exact wp_skip (hQ a W ρ ht (Stp.refl hr))
  · injection h with h1 h2 h3; subst h1; subst h2; subst h3
    exact wp_label (hQ a W ρ ht (Stp.refl hr))
  · rename_i id ops draw
    obtain ⟨hn, h2⟩ := ofRT_ok h
    subst hn
    clear h
    cases draw
    · refine wp_region (evSeq_ok (hcl c hc) ops.toList (List.range ops.size) tm tm' m m' ρ a W ?_ h2 ht hr hb hw hf hQ)
      apply List.ext_getElem?
      intro k
      rw [List.getElem?_map, List.getElem?_map]
      have hk2 : ops.toList[k]? = ops[k]? := by simp
      rw [hk2]
      by_cases hk : k < ops.size
      · rw [List.getElem?_range hk, Array.getElem?_eq_getElem hk]
        simp [hk]
      · rw [List.getElem?_eq_none (by simp; omega), Array.getElem?_eq_none (by omega)]
        rfl
    · exact evDrawn_ok (fun c' hc' => hcl c' (hc'.trans hc)) hst h2 ht hr hb hw hf hQ
  · rename_i x1 x2
    refine wp_seq ?_
    split at h
    · rename_i tm1 m1 h1
      have st1 := hs _ _ _ _ _ _ _ _ h1 hb
      have st2 := hs _ _ _ _ _ _ _ _ h (Nat.le_trans hb st1.1)
      refine he c hc _ _ _ _ _ _ _ h1 D ρ a W _ ht hr hb hw (hf.mono (Nat.le_refl _) st2.1) (fun a1 W1 ρ1 ht1 hs1 => ?_)
      exact he c hc _ _ _ _ _ _ _ h D ρ1 a1 W1 Q ht1 hs1.rep (Nat.le_trans hb hs1.cnt) (hs1.wf hw) (hf.stp hs1) (fun a2 W2 ρ2 ht2 hs2 => hQ a2 W2 ρ2 ht2 (hs1.trans hs2))
    · rename_i hne
      refine he c hc _ _ _ _ _ _ _ h D ρ a W _ ht hr hb hw hf (fun a1 W1 ρ1 ht1 hs1 => ?_)
      have := hQ a1 W1 ρ1 ht1 hs1
      cases r with
      | normal => exact absurd h (hne _ _)
      | exit i => exact this
      | ret => exact this
  · rename_i k x1 x2
    split at h
    · rename_i t hk
      have hcd := opd_rep ht.2.2 hr.glo hk
      rw [Rep] at hcd
      cases t
      · exact wp_cond_false hcd (he c hc _ _ _ _ _ _ _ h D ρ a W Q ht hr hb hw hf hQ)
      · exact wp_cond_true hcd (he c hc _ _ _ _ _ _ _ h D ρ a W Q ht hr hb hw hf hQ)
    · cases h
  · rename_i id x1
    refine wp_block ?_
    split at h
    · rename_i i tm1 m1 h1
      cases hid : Nat.beq i id <;> rw [hid] at h
      · injection h with g1 g2 g3; subst g1; subst g2; subst g3
        refine he c hc _ _ _ _ _ _ _ h1 D ρ a W _ ht hr hb hw hf (fun a1 W1 ρ1 ht1 hs1 => ?_)
        have := hQ a1 W1 ρ1 ht1 hs1
        show Exit.inBlock id Q (.exit i) a1 W1
        unfold Exit.inBlock
        simp only
        rw [if_neg (Nat.ne_of_beq_eq_false hid)]
        exact this
      · injection h with g1 g2 g3; subst g1; subst g2; subst g3
        refine he c hc _ _ _ _ _ _ _ h1 D ρ a W _ ht hr hb hw hf (fun a1 W1 ρ1 ht1 hs1 => ?_)
        have := hQ a1 W1 ρ1 ht1 hs1
        show Exit.inBlock id Q (.exit i) a1 W1
        unfold Exit.inBlock
        simp only
        rw [if_pos (Nat.eq_of_beq_eq_true hid)]
        exact this
    · rename_i hne
      refine he c hc _ _ _ _ _ _ _ h D ρ a W _ ht hr hb hw hf (fun a1 W1 ρ1 ht1 hs1 => ?_)
      have := hQ a1 W1 ρ1 ht1 hs1
      cases r with
      | normal => exact this
      | exit i => exact absurd h (hne _ _ _)
      | ret => exact this
  · rename_i x1
    exact wp_loop_rounds 1000000 (loopF_ok he hs hc 1000000 tm m r tm' m' h D ρ a W Q ht hr hb hw hf hQ)
  · injection h with h1 h2 h3; subst h1; subst h2; subst h3
    exact wp_exit (hQ a W ρ ht (Stp.refl hr))
  · injection h with h1 h2 h3; subst h1; subst h2; subst h3
    exact wp_ret (hQ a W ρ ht (Stp.refl hr))
  · refine wp_scope_straight (he c hc _ _ _ _ _ _ _ h D ρ a W _ ht hr hb hw hf (fun a1 W1 ρ1 ht1 hs1 => ?_))
    have := hQ a1 W1 ρ1 ht1 hs1
    cases r <;> exact this
  · cases h
theorem lev_ok {P : Program} {ext : Ext} (hx : ExtOK P ext) : ∀ n, CodeOK P (ev ext n) ∧ ∀ c, c.P = P → CallOK c (evCalls ext n c)
  | 0 => ⟨fun c _ nt x tm m r tm' m' h => (by cases h), fun c _ f args m v m' h => (by cases h)⟩
  | n + 1 => by
    obtain ⟨h1, h2⟩ := lev_ok hx n
    obtain ⟨h3, h4⟩ := lev_st hx.2 n
    have h5 : ∀ c, c.P = P → CallOK c (callF ext (ev ext n) (evCalls ext n) c) := callF_ok hx h1 h3 h2 h4
    exact ⟨codeF_ok h1 h3 h5 (callF_st hx.2 h3 h4), h5⟩
/-- What the evaluator tells of a call is so. -/
theorem evCalls_ok {P : Program} {ext : Ext} (hx : ExtOK P ext) (n : Nat) (c : Ctx) (hc : c.P = P) : CallOK c (evCalls ext n c) := (lev_ok hx n).2 c hc

end Go.Proofs.YtajmkdbokdjmeaaGreat
/- The law's example, by the evaluator. -/
namespace Go.Proofs.YtajmkdbokdjmeaaGreat
open Go.RowKit
noncomputable def c17 : Ctx := ⟨Tryz.prog, [], 0, 0⟩
def isTrueV : RV → Bool
  | .ok (.bool true) _ => true
  | _ => false
theorem isTrueV_ok {r : RV} (h : isTrueV r = true) : ∃ m, r = .ok (.bool true) m := by
  cases r with
  | fail => cases h
  | ok v m =>
    cases v with
    | bool b => cases b with
      | true => exact ⟨m, rfl⟩
      | false => cases h
    | _ => cases h
set_option maxRecDepth 1000000 in
theorem ev_shown17 : isTrueV (evCalls noExt 3000 c17 8 [] ⟨.e, 0⟩) = true := by kernel_rfl

end Go.Proofs.YtajmkdbokdjmeaaGreat
/- The law's example is told as it should be. -/
namespace Go.Proofs.YtajmkdbokdjmeaaGreat
open Go.RowKit
theorem shown17 (w : World) : Calls Tryz.prog 8 #[] w fun e w' => e = .returned (.bool true) ∧ w.grownBy w' none := by
  obtain ⟨m', hm⟩ := isTrueV_ok ev_shown17
  have hempty : ∀ b, (Tr.e : Tr AB).get b = none := fun b => by cases b <;> rfl
  have h := evCalls_ok (noExt_ok Tryz.prog) 3000 c17 rfl 8 [] ⟨.e, 0⟩ (.bool true) m' hm (fun _ => none) [] w (by rfl) ?hr (Nat.le_refl _) (fun b x hb => by rw [show (Mem.h ⟨Tr.e, 0⟩) = Tr.e from rfl, hempty b] at hb; cases hb) (fun _ _ _ => rfl)
  case hr => exact ⟨fun b t e sz hl => (by have := hl.2; rw [show (Mem.h ⟨Tr.e, 0⟩) = Tr.e from rfl, hempty b] at this; cases this), fun b t e sz _ _ _ _ _ _ _ hl => (by have := hl.2; rw [show (Mem.h ⟨Tr.e, 0⟩) = Tr.e from rfl, hempty b] at this; cases this), fun g hg => absurd hg (Nat.not_lt_zero _)⟩
  refine h.mono ?_
  rintro e W ⟨V, ρ', rfl, hV, hS⟩
  have hV' : V = .bool true := by simpa only [Rep] using hV
  subst hV'
  exact ⟨rfl, hS.os, hS.tape, hS.output, hS.size, fun k hk _ => hS.frame k hk fun b t e sz j _ hl => (by have := hl.2; rw [show (Mem.h ⟨Tr.e, 0⟩) = Tr.e from rfl, hempty b] at this; cases this)⟩

end Go.Proofs.YtajmkdbokdjmeaaGreat
