/- Merged: O15, O16, O17. -/
import Derived.Test.YtajmkdbokdjmeaaGreatMk13
/- An evaluator: regions that draw their order. Kit only. -/
namespace Go.Proofs.YtajmkdbokdjmeaaGreat
open Go.RowKit
/-- What an operation of a region has told. -/
structure Row where
  made ::
  idx : Nat
  dst : Option Nat
  v : AV
  lo : Nat
  hi : Nat
noncomputable def hidOf (mask : Nat) (rows : List Row) : List (Nat × Nat) :=
  List.rec (motive := fun _ => List (Nat × Nat)) [] (fun r _ ih => cond (bitOf mask r.idx) ih (cond (Nat.blt r.lo r.hi) ((r.lo, r.hi) :: ih) ih)) rows
def isDst (d : Option Nat) (t : Nat) : Bool :=
  match d with
  | some d => Nat.beq d t
  | none => false
theorem isDst_iff {d : Option Nat} {t : Nat} : isDst d t = true ↔ d = some t := by
  cases d with
  | none => simp [isDst]
  | some d => exact ⟨fun h => by rw [Nat.eq_of_beq_eq_true h], fun h => by injection h with h; subst h; exact Nat.beq_refl d⟩
noncomputable def hasDst (dsts : List (Option Nat)) (t : Nat) : Bool := List.rec (motive := fun _ => Bool) false (fun d _ ih => cond (isDst d t) true ih) dsts
theorem hasDst_iff {t : Nat} : ∀ (l : List (Option Nat)), hasDst l t = true ↔ some t ∈ l
  | [] => ⟨fun h => (by cases h), fun h => (by cases h)⟩
  | d :: l => by
    show cond (isDst d t) true (hasDst l t) = true ↔ _
    cases hd : isDst d t
    · simp only [cond_false, hasDst_iff l, List.mem_cons]
      exact ⟨fun h => .inr h, fun h => h.resolve_left (fun e => by rw [isDst_iff.2 e.symm] at hd; cases hd)⟩
    · simp [isDst_iff.1 hd]
noncomputable def rowsAt (mask t : Nat) (rows : List Row) (other : Option AV) : Option AV :=
  List.rec (motive := fun _ => Option AV) other (fun r _ ih => cond (isDst r.dst t) (cond (bitOf mask r.idx) (some r.v) ih) ih) rows
noncomputable def envOf (mask : Nat) (rows : List Row) (dsts : List (Option Nat)) (tm : Tr AV) (t : Nat) : Option AV :=
  rowsAt mask t rows (cond (hasDst dsts t) none (tm.get t))
theorem rowsAt_some {mask t : Nat} {other : Option AV} {v : AV} : ∀ (rows : List Row), rowsAt mask t rows other = some v → (∃ r ∈ rows, r.dst = some t ∧ bitOf mask r.idx = true ∧ v = r.v) ∨ other = some v
  | [], h => .inr h
  | r :: rows, h => by
    have h' : cond (isDst r.dst t) (cond (bitOf mask r.idx) (some r.v) (rowsAt mask t rows other)) (rowsAt mask t rows other) = some v := h
    have more : rowsAt mask t rows other = some v → (∃ q ∈ r :: rows, q.dst = some t ∧ bitOf mask q.idx = true ∧ v = q.v) ∨ other = some v := fun h => by
      rcases rowsAt_some rows h with ⟨q, hq, h2⟩ | h2
      · exact .inl ⟨q, by simp [hq], h2⟩
      · exact .inr h2
    cases hd : isDst r.dst t <;> rw [hd] at h'
    · exact more h'
    · simp only [cond_true] at h'
      cases hb : bitOf mask r.idx <;> rw [hb] at h'
      · exact more h'
      · injection h' with h'
        exact .inl ⟨r, by simp, isDst_iff.1 hd, hb, h'.symm⟩
theorem mem_hidOf {mask : Nat} {x : Nat × Nat} : ∀ (rows : List Row), x ∈ hidOf mask rows → ∃ r ∈ rows, bitOf mask r.idx = false ∧ x = (r.lo, r.hi)
  | [], h => by cases h
  | r :: rows, h => by
    have h' : x ∈ cond (bitOf mask r.idx) (hidOf mask rows) (cond (Nat.blt r.lo r.hi) ((r.lo, r.hi) :: hidOf mask rows) (hidOf mask rows)) := h
    have more : x ∈ hidOf mask rows → ∃ q ∈ r :: rows, bitOf mask q.idx = false ∧ x = (q.lo, q.hi) := fun h => by
      obtain ⟨q, hq, h2⟩ := mem_hidOf rows h
      exact ⟨q, by simp [hq], h2⟩
    cases hb : bitOf mask r.idx <;> rw [hb] at h'
    · simp only [cond_false] at h'
      cases hl : Nat.blt r.lo r.hi <;> rw [hl] at h'
      · exact more h'
      · simp only [cond_true, List.mem_cons] at h'
        rcases h' with h' | h'
        · exact ⟨r, by simp, hb, h'⟩
        · exact more h'
    · exact more h'
theorem hidOf_mem {mask : Nat} {r : Row} : ∀ (rows : List Row), r ∈ rows → bitOf mask r.idx = false → r.lo < r.hi → (r.lo, r.hi) ∈ hidOf mask rows
  | [], h, _, _ => by cases h
  | q :: rows, h, hb, hl => by
    show (r.lo, r.hi) ∈ cond (bitOf mask q.idx) (hidOf mask rows) (cond (Nat.blt q.lo q.hi) ((q.lo, q.hi) :: hidOf mask rows) (hidOf mask rows))
    rcases List.mem_cons.1 h with rfl | h
    · rw [hb]
      have : Nat.blt r.lo r.hi = true := Nat.ble_eq_true_of_le hl
      simp [this]
    · have := hidOf_mem rows h hb hl
      cases bitOf mask q.idx
      · cases Nat.blt q.lo q.hi
        · exact this
        · simp [this]
      · exact this
inductive PR where
  | fail
  | ok (rows : List Row) (m : Mem)
/-- May an operation's result stand there: none ahead of it does. -/
noncomputable def freshDst (nt : Nat) (d : Option Nat) (rows : List Row) : Bool :=
  match d with
  | none => true
  | some t => cond (Nat.blt t nt) (List.rec (motive := fun _ => Bool) true (fun r _ ih => cond (isDst r.dst t) false ih) rows) false
theorem freshDst_ok {nt t : Nat} {rows : List Row} (h : freshDst nt (some t) rows = true) : t < nt ∧ ∀ r ∈ rows, r.dst ≠ some t := by
  unfold freshDst at h
  simp only at h
  cases hb : Nat.blt t nt <;> rw [hb] at h
  · cases h
  refine ⟨Nat.le_of_ble_eq_true hb, ?_⟩
  simp only [cond_true] at h
  induction rows with
  | nil => intro r hr; cases hr
  | cons q rows ih =>
    have h' : cond (isDst q.dst t) false (List.rec (motive := fun _ => Bool) true (fun r _ ih => cond (isDst r.dst t) false ih) rows) = true := h
    cases hq : isDst q.dst t <;> rw [hq] at h'
    · intro r hr e
      rcases List.mem_cons.1 hr with rfl | hr
      · rw [isDst_iff.2 e] at hq; cases hq
      · exact ih h' r hr e
    · cases h'
/-- Stores whose place is known ahead of the region: number and block. -/
noncomputable def stScan (dsts : List (Option Nat)) (tm : Tr AV) (os : List Oper) : Nat → List (Nat × Nat) :=
  List.rec (motive := fun _ => Nat → List (Nat × Nat)) (fun _ => [])
    (fun o _ ih i =>
      match o.op with
      | .store _ (.tmp t) _ => cond (hasDst dsts t) (ih (Nat.succ i)) (match tm.get t with
        | some (.ptr b _) => (i, b) :: ih (Nat.succ i)
        | _ => ih (Nat.succ i))
      | _ => ih (Nat.succ i)) os
noncomputable def stOf (st : List (Nat × Nat)) (i : Nat) : Option Nat :=
  List.rec (motive := fun _ => Option Nat) none (fun p _ ih => cond (Nat.beq p.1 i) (some p.2) ih) st
noncomputable def hasBlk (st : List (Nat × Nat)) (b : Nat) : Bool :=
  List.rec (motive := fun _ => Bool) false (fun p _ ih => cond (Nat.beq p.2 b) true ih) st
noncomputable def uniqSt (st : List (Nat × Nat)) : Bool :=
  List.rec (motive := fun _ => Bool) true (fun p l ih => cond (hasBlk l p.2) false ih) st
/-- The places are known ahead of the region, may be written, and are seen. -/
noncomputable def okSt (c : Ctx) (m : Mem) (st : List (Nat × Nat)) : Bool :=
  List.rec (motive := fun _ => Bool) true (fun p _ ih => cond (Nat.ble c.bar p.2) (cond (Nat.blt p.2 m.cnt) (match rowIn c m p.2 with | some _ => ih | none => false) false) false) st
theorem okSt_ok {c : Ctx} {m : Mem} {j b : Nat} : ∀ (st : List (Nat × Nat)), okSt c m st = true → (j, b) ∈ st → c.bar ≤ b ∧ b < m.cnt ∧ ∃ t e sz, Live c m b t e sz
  | [], _, h => by cases h
  | p :: st, hu, h => by
    have h' : cond (Nat.ble c.bar p.2) (cond (Nat.blt p.2 m.cnt) (match rowIn c m p.2 with | some _ => okSt c m st | none => false) false) false = true := hu
    cases hb1 : Nat.ble c.bar p.2 <;> rw [hb1] at h'
    · cases h'
    cases hb2 : Nat.blt p.2 m.cnt <;> rw [hb2] at h'
    · cases h'
    simp only [cond_true] at h'
    split at h'
    · rename_i x hx
      rcases List.mem_cons.1 h with e | h
      · subst e
        obtain ⟨t, e, sz⟩ := x
        exact ⟨Nat.le_of_ble_eq_true hb1, Nat.le_of_ble_eq_true hb2, t, e + 2, sz, rowIn_ok hx⟩
      · exact okSt_ok st h' h
    · cases h'
noncomputable def hidSt (ms : Tr Nat) (mask i : Nat) (st : List (Nat × Nat)) : List (Nat × Nat) :=
  List.rec (motive := fun _ => List (Nat × Nat)) [] (fun p _ ih => cond (bitOf mask p.1) ih (cond (bitAt ms p.1 i) ih ((p.2, Nat.succ p.2) :: ih))) st
theorem stOf_mem {i b : Nat} : ∀ (st : List (Nat × Nat)), stOf st i = some b → (i, b) ∈ st
  | [], h => by cases h
  | p :: st, h => by
    have h' : cond (Nat.beq p.1 i) (some p.2) (stOf st i) = some b := h
    cases hb : Nat.beq p.1 i <;> rw [hb] at h'
    · exact List.mem_cons_of_mem _ (stOf_mem st h')
    · injection h' with h'
      have := Nat.eq_of_beq_eq_true hb
      subst this; subst h'
      exact List.mem_cons_self ..
theorem hasBlk_iff {b : Nat} : ∀ (st : List (Nat × Nat)), hasBlk st b = true ↔ ∃ p ∈ st, p.2 = b
  | [] => ⟨fun h => (by cases h), fun ⟨p, h, _⟩ => (by cases h)⟩
  | p :: st => by
    show cond (Nat.beq p.2 b) true (hasBlk st b) = true ↔ _
    cases hb : Nat.beq p.2 b
    · have hne := Nat.ne_of_beq_eq_false hb
      simp only [cond_false, hasBlk_iff st, List.mem_cons]
      exact ⟨fun ⟨q, h1, h2⟩ => ⟨q, .inr h1, h2⟩, fun ⟨q, h1, h2⟩ => ⟨q, h1.resolve_left (fun e => hne (e ▸ h2)), h2⟩⟩
    · have := Nat.eq_of_beq_eq_true hb
      simp only [cond_true, true_iff]
      exact ⟨p, List.mem_cons_self .., this⟩
theorem uniqSt_ok {j k b : Nat} : ∀ (st : List (Nat × Nat)), uniqSt st = true → (j, b) ∈ st → (k, b) ∈ st → j = k
  | [], _, h, _ => by cases h
  | p :: st, hu, h1, h2 => by
    have h' : cond (hasBlk st p.2) false (uniqSt st) = true := hu
    cases hb : hasBlk st p.2 <;> rw [hb] at h'
    · have hno : ∀ q ∈ st, q.2 ≠ p.2 := fun q hq e => by
        rw [(hasBlk_iff st).2 ⟨q, hq, e⟩] at hb; cases hb
      rcases List.mem_cons.1 h1 with e1 | h1 <;> rcases List.mem_cons.1 h2 with e2 | h2
      · rw [← e2] at e1; injection e1
      · exact absurd (by rw [← e1]) (hno _ h2)
      · exact absurd (by rw [← e2]) (hno _ h1)
      · exact uniqSt_ok st h' h1 h2
    · cases h'
theorem mem_hidSt {ms : Tr Nat} {mask i b j : Nat} : ∀ (st : List (Nat × Nat)), (j, b) ∈ st → bitOf mask j = false → bitAt ms j i = false → (b, b + 1) ∈ hidSt ms mask i st
  | [], h, _, _ => by cases h
  | p :: st, h, h1, h2 => by
    show (b, b + 1) ∈ cond (bitOf mask p.1) (hidSt ms mask i st) (cond (bitAt ms p.1 i) (hidSt ms mask i st) ((p.2, p.2 + 1) :: hidSt ms mask i st))
    rcases List.mem_cons.1 h with e | h
    · subst e
      rw [h1, h2]
      simp
    · have := mem_hidSt st h h1 h2
      cases bitOf mask p.1
      · cases bitAt ms p.1 i
        · simp [this]
        · exact this
      · exact this
theorem hidSt_mem {ms : Tr Nat} {mask i : Nat} {x : Nat × Nat} : ∀ (st : List (Nat × Nat)), x ∈ hidSt ms mask i st → ∃ p ∈ st, x = (p.2, p.2 + 1)
  | [], h => by cases h
  | p :: st, h => by
    have h' : x ∈ cond (bitOf mask p.1) (hidSt ms mask i st) (cond (bitAt ms p.1 i) (hidSt ms mask i st) ((p.2, p.2 + 1) :: hidSt ms mask i st)) := h
    have more : x ∈ hidSt ms mask i st → ∃ q ∈ p :: st, x = (q.2, q.2 + 1) := fun h => by
      obtain ⟨q, hq, h2⟩ := hidSt_mem st h
      exact ⟨q, List.mem_cons_of_mem _ hq, h2⟩
    cases h1 : bitOf mask p.1 <;> rw [h1] at h'
    · simp only [cond_false] at h'
      cases h2 : bitAt ms p.1 i <;> rw [h2] at h'
      · simp only [cond_false, List.mem_cons] at h'
        rcases h' with h' | h'
        · exact ⟨p, List.mem_cons_self .., h'⟩
        · exact more h'
      · exact more h'
    · exact more h'
/-- What an operation of a region sees. -/
noncomputable def ctxG (c : Ctx) (ms : Tr Nat) (st : List (Nat × Nat)) (mask i : Nat) (rows : List Row) (cnt : Nat) : Ctx := ⟨c.P, hidSt ms mask i st ++ (hidOf mask rows ++ c.hid), cnt, c.ng⟩
/-- What a store of known place sees: its block alone. -/
def ctxB (c : Ctx) (b cnt : Nat) : Ctx := ⟨c.P, [(0, b), (b + 1, cnt)], b, 0⟩
noncomputable def evPre (c : Ctx) (cl : Ctx → Nat → List AV → Mem → RV) (nt : Nat) (ops : Array Oper) (dsts : List (Option Nat)) (tm : Tr AV) (ms : Tr Nat) (st : List (Nat × Nat)) (c0 : Nat) (os : List Oper) : Nat → List Row → Mem → PR :=
  List.rec (motive := fun _ => Nat → List Row → Mem → PR) (fun _ rows m => .ok rows m)
    (fun o _ ih i rows m =>
      match ms.get i with
      | some mask =>
        cond (freshDst nt o.dst rows)
          (match evGuard ops (envOf mask rows dsts tm) o with
          | some true =>
            match stOf st i with
            | none =>
              match evOper (ctxG c ms st mask i rows m.cnt) (envOf mask rows dsts tm) (cl (ctxG c ms st mask i rows m.cnt)) o.op m with
              | .ok v m' => cond (Nat.ble m.cnt m'.cnt) (ih (Nat.succ i) (⟨i, o.dst, v, m.cnt, m'.cnt⟩ :: rows) m') .fail
              | .fail => .fail
            | some b =>
              cond (Nat.ble c.bar b) (cond (Nat.blt b c0) (cond (seenIn c.hid b)
                (match evOper (ctxB c b m.cnt) (envOf mask rows dsts tm) (cl (ctxB c b m.cnt)) o.op m with
                | .ok v m' =>
                  match m'.h.get b with
                  | some r => cond (Nat.beq m'.cnt m.cnt) (ih (Nat.succ i) (⟨i, o.dst, v, m.cnt, m.cnt⟩ :: rows) ⟨m.h.set b r, m.cnt⟩) .fail
                  | none => .fail
                | .fail => .fail) .fail) .fail) .fail
          | some false => ih (Nat.succ i) (⟨i, o.dst, .tup [], m.cnt, m.cnt⟩ :: rows) m
          | none => .fail) .fail
      | none => .fail) os
/-- The rows of the operations ahead of number j, the latest first. -/
def upto (f : Nat → Row) : Nat → List Row
  | 0 => []
  | j + 1 => f j :: upto f j
theorem upto_mem {f : Nat → Row} {r : Row} : ∀ {j : Nat}, r ∈ upto f j → ∃ k, k < j ∧ r = f k
  | 0, h => by cases h
  | j + 1, h => by
    rcases List.mem_cons.1 h with rfl | h
    · exact ⟨j, by omega, rfl⟩
    · obtain ⟨k, h1, h2⟩ := upto_mem h
      exact ⟨k, by omega, h2⟩
theorem mem_upto {f : Nat → Row} {k : Nat} : ∀ {j : Nat}, k < j → f k ∈ upto f j
  | 0, h => by omega
  | j + 1, h => by
    rcases Nat.lt_or_ge k j with h1 | h1
    · exact List.mem_cons_of_mem _ (mem_upto h1)
    · have : k = j := by omega
      subst this
      exact List.mem_cons_self ..
theorem upto_congr {f g : Nat → Row} : ∀ {j : Nat}, (∀ k, k < j → f k = g k) → upto f j = upto g j
  | 0, _ => rfl
  | j + 1, h => by rw [upto, upto, h j (by omega), upto_congr (fun k hk => h k (by omega))]
/-- How a number of a region is told: it makes memory; it stores at a known place; it is left out. -/
def HowAt (c : Ctx) (cl : Ctx → Nat → List AV → Mem → RV) (ops : Array Oper) (dsts : List (Option Nat)) (tm : Tr AV) (ms : Tr Nat) (st : List (Nat × Nat)) (c0 : Nat) (rows : List Row) (j : Nat) (o : Oper) (mask : Nat) (v : AV) (m m' : Mem) : Prop :=
  (evGuard ops (envOf mask rows dsts tm) o = some true ∧ stOf st j = none ∧ m.cnt ≤ m'.cnt ∧ evOper (ctxG c ms st mask j rows m.cnt) (envOf mask rows dsts tm) (cl (ctxG c ms st mask j rows m.cnt)) o.op m = .ok v m') ∨
  (∃ b m1 r, evGuard ops (envOf mask rows dsts tm) o = some true ∧ stOf st j = some b ∧ c.bar ≤ b ∧ b < c0 ∧ seenIn c.hid b = true ∧ evOper (ctxB c b m.cnt) (envOf mask rows dsts tm) (cl (ctxB c b m.cnt)) o.op m = .ok v m1 ∧ m1.h.get b = some r ∧ m1.cnt = m.cnt ∧ m' = ⟨m.h.set b r, m.cnt⟩) ∨
  (evGuard ops (envOf mask rows dsts tm) o = some false ∧ v = .tup [] ∧ m' = m)
/-- Number j of a region is told. -/
structure StepAt (c : Ctx) (cl : Ctx → Nat → List AV → Mem → RV) (nt : Nat) (ops : Array Oper) (dsts : List (Option Nat)) (tm : Tr AV) (ms : Tr Nat) (st : List (Nat × Nat)) (c0 : Nat) (f : Nat → Row) (M : Nat → Mem) (j : Nat) (o : Oper) (mask : Nat) : Prop where
  bits : ms.get j = some mask
  idx : (f j).idx = j
  dst : (f j).dst = o.dst
  lo : (f j).lo = (M j).cnt
  hi : (f j).hi = (M (j + 1)).cnt
  le : (M j).cnt ≤ (M (j + 1)).cnt
  fresh : freshDst nt o.dst (upto f j) = true
  told : HowAt c cl ops dsts tm ms st c0 (upto f j) j o mask (f j).v (M j) (M (j + 1))
theorem evPre_steps {c : Ctx} {cl : Ctx → Nat → List AV → Mem → RV} {nt : Nat} {ops : Array Oper} {dsts : List (Option Nat)} {tm : Tr AV} {ms : Tr Nat} {st : List (Nat × Nat)} {c0 : Nat} : ∀ (os : List Oper) (i : Nat) (f : Nat → Row) (M : Nat → Mem) (R : List Row) (m' : Mem),
    evPre c cl nt ops dsts tm ms st c0 os i (upto f i) (M i) = .ok R m' →
    ∃ (g : Nat → Row) (N : Nat → Mem), (∀ k, k < i → g k = f k) ∧ (∀ k, k ≤ i → N k = M k) ∧ R = upto g (i + os.length) ∧ N (i + os.length) = m' ∧ ∀ q o, os[q]? = some o → ∃ mask, StepAt c cl nt ops dsts tm ms st c0 g N (i + q) o mask
  | [], i, f, M, R, m', h => by
    have h' : PR.ok (upto f i) (M i) = .ok R m' := h
    injection h' with h1 h2
    subst h1; subst h2
    exact ⟨f, M, fun _ _ => rfl, fun _ _ => rfl, rfl, rfl, fun q o hq => by simp at hq⟩
  | o :: os, i, f, M, R, m', h => by
    have h' : (match ms.get i with
      | some mask =>
        cond (freshDst nt o.dst (upto f i))
          (match evGuard ops (envOf mask (upto f i) dsts tm) o with
          | some true =>
            match stOf st i with
            | none =>
              match evOper (ctxG c ms st mask i (upto f i) (M i).cnt) (envOf mask (upto f i) dsts tm) (cl (ctxG c ms st mask i (upto f i) (M i).cnt)) o.op (M i) with
              | .ok v m' => cond (Nat.ble (M i).cnt m'.cnt) (evPre c cl nt ops dsts tm ms st c0 os (i + 1) (⟨i, o.dst, v, (M i).cnt, m'.cnt⟩ :: upto f i) m') .fail
              | .fail => .fail
            | some b =>
              cond (Nat.ble c.bar b) (cond (Nat.blt b c0) (cond (seenIn c.hid b)
                (match evOper (ctxB c b (M i).cnt) (envOf mask (upto f i) dsts tm) (cl (ctxB c b (M i).cnt)) o.op (M i) with
                | .ok v m' =>
                  match m'.h.get b with
                  | some r => cond (Nat.beq m'.cnt (M i).cnt) (evPre c cl nt ops dsts tm ms st c0 os (i + 1) (⟨i, o.dst, v, (M i).cnt, (M i).cnt⟩ :: upto f i) ⟨(M i).h.set b r, (M i).cnt⟩) .fail
                  | none => .fail
                | .fail => .fail) .fail) .fail) .fail
          | some false => evPre c cl nt ops dsts tm ms st c0 os (i + 1) (⟨i, o.dst, .tup [], (M i).cnt, (M i).cnt⟩ :: upto f i) (M i)
          | none => .fail) .fail
      | none => .fail) = PR.ok R m' := h
    split at h'
    · rename_i mask hmask
      cases hfr : freshDst nt o.dst (upto f i) <;> rw [hfr] at h'
      · cases h'
      simp only [cond_true] at h'
      have step : ∀ (v : AV) (m1 : Mem), (M i).cnt ≤ m1.cnt → evPre c cl nt ops dsts tm ms st c0 os (i + 1) (⟨i, o.dst, v, (M i).cnt, m1.cnt⟩ :: upto f i) m1 = .ok R m' →
          HowAt c cl ops dsts tm ms st c0 (upto f i) i o mask v (M i) m1 →
          ∃ (g : Nat → Row) (N : Nat → Mem), (∀ k, k < i → g k = f k) ∧ (∀ k, k ≤ i → N k = M k) ∧ R = upto g (i + (o :: os).length) ∧ N (i + (o :: os).length) = m' ∧ ∀ q p, (o :: os)[q]? = some p → ∃ mask, StepAt c cl nt ops dsts tm ms st c0 g N (i + q) p mask := by
        intro v m1 hle hev htold
        have e1 : upto (fun k => if k = i then ⟨i, o.dst, v, (M i).cnt, m1.cnt⟩ else f k) i = upto f i := upto_congr (fun k hk => by
          have : k ≠ i := by omega
          simp [this])
        have e2 : upto (fun k => if k = i then ⟨i, o.dst, v, (M i).cnt, m1.cnt⟩ else f k) (i + 1) = ⟨i, o.dst, v, (M i).cnt, m1.cnt⟩ :: upto f i := by
          rw [upto, e1]
          simp
        obtain ⟨g, N, h1, h2, h3, h4, h5⟩ := evPre_steps (c := c) (cl := cl) (nt := nt) (ops := ops) (dsts := dsts) (tm := tm) (ms := ms) (st := st) (c0 := c0) os (i + 1) (fun k => if k = i then ⟨i, o.dst, v, (M i).cnt, m1.cnt⟩ else f k) (fun k => if k = i + 1 then m1 else M k) R m' (by rw [e2]; simp only [if_true]; exact hev)
        have hgi : g i = ⟨i, o.dst, v, (M i).cnt, m1.cnt⟩ := by rw [h1 i (by omega)]; simp
        have hNi : N i = M i := by
          rw [h2 i (by omega)]
          simp
        have hN1 : N (i + 1) = m1 := by rw [h2 (i + 1) (Nat.le_refl _)]; simp
        have hup : upto g i = upto f i := upto_congr (fun k hk => by
          rw [h1 k (by omega)]
          have : k ≠ i := by omega
          simp [this])
        refine ⟨g, N, fun k hk => ?_, fun k hk => ?_, by rw [h3, List.length_cons]; congr 1; omega, by rw [← h4, List.length_cons]; congr 1; omega, fun q p hq => ?_⟩
        · rw [h1 k (by omega)]
          have : k ≠ i := by omega
          simp [this]
        · rw [h2 k (by omega)]
          have : k ≠ i + 1 := by omega
          simp [this]
        · cases q with
          | zero =>
            have : o = p := by simpa using hq
            subst this
            refine ⟨mask, ⟨hmask, by simp [hgi], by simp [hgi], by simp [hgi, hNi], by simp [hgi, hN1], by simp [hNi, hN1, hle], by simp only [Nat.add_zero]; rw [hup]; exact hfr, ?_⟩⟩
            simp only [Nat.add_zero, hup, hNi, hN1, hgi]
            exact htold
          | succ q =>
            obtain ⟨mk, hmk⟩ := h5 q p (by simpa using hq)
            rw [show i + (q + 1) = i + 1 + q by omega]
            exact ⟨mk, hmk⟩
      split at h'
      · rename_i hg
        split at h'
        · rename_i hst
          split at h'
          · rename_i v m1 hop
            cases hb : Nat.ble (M i).cnt m1.cnt <;> rw [hb] at h'
            · cases h'
            have hle := Nat.le_of_ble_eq_true hb
            exact step v m1 hle h' (.inl ⟨hg, hst, hle, hop⟩)
          · cases h'
        · rename_i b hst
          cases hb1 : Nat.ble c.bar b <;> rw [hb1] at h'
          · cases h'
          cases hb2 : Nat.blt b c0 <;> rw [hb2] at h'
          · cases h'
          cases hb3 : seenIn c.hid b <;> rw [hb3] at h'
          · cases h'
          simp only [cond_true] at h'
          split at h'
          · rename_i v m1 hop
            split at h'
            · rename_i r hr
              cases hb4 : Nat.beq m1.cnt (M i).cnt <;> rw [hb4] at h'
              · cases h'
              exact step v ⟨(M i).h.set b r, (M i).cnt⟩ (Nat.le_refl _) h' (.inr (.inl ⟨b, m1, r, hg, hst, Nat.le_of_ble_eq_true hb1, Nat.le_of_ble_eq_true hb2, hb3, hop, hr, Nat.eq_of_beq_eq_true hb4, rfl⟩))
            · cases h'
          · cases h'
      · rename_i hg
        exact step (.tup []) (M i) (Nat.le_refl _) h' (.inr (.inr ⟨hg, rfl, rfl⟩))
      · cases h'
    · cases h'

end Go.Proofs.YtajmkdbokdjmeaaGreat
/- An evaluator: what stays of a memory, by the text of the evaluator alone. Kit only. -/
namespace Go.Proofs.YtajmkdbokdjmeaaGreat
open Go.RowKit
def Stat (c : Ctx) (m m' : Mem) : Prop := m.cnt ≤ m'.cnt ∧ (∀ b, b < c.bar → m'.h.get b = m.h.get b) ∧ (m.wf → m'.wf)
theorem Stat.refl (c : Ctx) (m : Mem) : Stat c m m := ⟨Nat.le_refl _, fun _ _ => rfl, fun h => h⟩
theorem Stat.trans {c : Ctx} {m m1 m2 : Mem} (h : Stat c m m1) (k : Stat c m1 m2) : Stat c m m2 := ⟨Nat.le_trans h.1 k.1, fun b hb => (k.2.1 b hb).trans (h.2.1 b hb), fun hw => k.2.2 (h.2.2 hw)⟩
theorem Stat.new {c : Ctx} {m : Mem} (hb : c.bar ≤ m.cnt) (l : List AV) (e sz : Nat) : Stat c m (newRowM m l e sz) := by
  refine ⟨by simp [newRowM], fun b hb' => Tr.get_set_ne _ _ _ _ (by omega), fun hw b x hx => ?_⟩
  show b < m.cnt + 1
  rcases m.h.get_set _ _ _ _ hx with ⟨h1, _⟩ | ⟨_, h2⟩
  · omega
  · have := hw b x h2
    omega
theorem Stat.put {c : Ctx} {m : Mem} {b : Nat} {x y : AB} (hb : c.bar ≤ b) (hg : m.h.get b = some y) : Stat c m ⟨m.h.set b x, m.cnt⟩ := by
  refine ⟨Nat.le_refl _, fun q hq => Tr.get_set_ne _ _ _ _ (by omega), fun hw q z hz => ?_⟩
  show q < m.cnt
  rcases m.h.get_set _ _ _ _ hz with ⟨h1, _⟩ | ⟨_, h2⟩
  · subst h1; exact hw _ _ hg
  · exact hw q z h2
def CallSt (c : Ctx) (cl : Nat → List AV → Mem → RV) : Prop := ∀ f args m v m', cl f args m = .ok v m' → c.bar ≤ m.cnt → Stat c m m'
theorem evStore_st {c : Ctx} {t : TypeId} {x v r : AV} {m m' : Mem} (h : evStore c t x v m = .ok r m') : Stat c m m' := by
  unfold evStore at h
  split at h
  · rename_i b o
    split at h
    · rename_i tr e sz z n hrow ha
      cases hb : Nat.ble c.bar b <;> rw [hb] at h
      · cases h
      cases hn : Nat.beq v.cells.length n <;> rw [hn] at h
      · cases h
      simp only [cond_true] at h
      split at h
      · injection h with h1 h2
        subst h2
        exact Stat.put (Nat.le_of_ble_eq_true hb) (rowIn_ok hrow).2
      · cases h
    · cases h
  · cases h
theorem appTo_st {c : Ctx} {e bytes size k : Nat} {s r : AV} {news : List AV} {m m' : Mem} (h : appTo c e bytes size s news k m = .ok r m') (hb : c.bar ≤ m.cnt) : Stat c m m' := by
  unfold appTo at h
  split at h
  · injection h with h1 h2; subst h2; exact Stat.new hb _ _ _
  · rename_i b n cp
    split at h
    · rename_i t e' sz hrow
      split at h
      · cases h1 : Nat.ble ((n + k) * bytes) 70368744177664 <;> rw [h1] at h
        · cases h
        cases h2 : Nat.ble (n + k) 1000000000 <;> rw [h2] at h
        · cases h
        simp only [cond_true] at h
        split at h
        · rename_i q
          cases h3 : Nat.blt q (n + k) <;> rw [h3] at h
          · cases h
          · injection h with h4 h5; subst h5; exact Stat.new hb _ _ _
        · cases h3 : Nat.ble c.bar b <;> rw [h3] at h
          · cases h
          cases h4 : Nat.beq e' e <;> rw [h4] at h
          · cases h
          cases h5 : Nat.beq sz size <;> rw [h5] at h
          · cases h
          injection h with h6 h7
          subst h7
          have hp := Stat.put (c := c) (x := AB.dead) (Nat.le_of_ble_eq_true h3) (rowIn_ok hrow).2
          exact hp.trans (Stat.new (m := ⟨m.h.set b .dead, m.cnt⟩) hb _ _ _)
        · cases h
      · cases h
    · cases h
  · cases h
theorem evAppend_st {c : Ctx} {t1 t2 : TypeId} {s x r : AV} {m m' : Mem} (h : evAppend c t1 t2 s x m = .ok r m') (hb : c.bar ≤ m.cnt) : Stat c m m' := by
  unfold evAppend at h
  cases ht : Nat.beq t1 t2 <;> rw [ht] at h
  · cases h
  simp only [cond_true] at h
  split at h
  · split at h
    · rename_i i hi
      split at h
      · rename_i z hz
        cases hb1 : Nat.beq z.cells.size i.size <;> rw [hb1] at h
        · cases h
        cases hb2 : Nat.blt 0 i.size <;> rw [hb2] at h
        · cases h
        simp only [cond_true] at h
        split at h
        · injection h with h3 h4; subst h4; exact Stat.refl _ _
        · injection h with h3 h4; subst h4; exact Stat.refl _ _
        · injection h with h3 h4; subst h4; exact Stat.refl _ _
        · injection h with h3 h4; subst h4; exact Stat.refl _ _
        · rename_i _ _ b o k cp
          split at h
          · split at h
            · rename_i news hn
              cases hb3 : allOne news <;> rw [hb3] at h
              · cases h
              cases hb4 : Nat.ble ((k + 1) * i.bytes) 70368744177664 <;> rw [hb4] at h
              · cases h
              cases hb5 : Nat.ble (k + 1) 1000000000 <;> rw [hb5] at h
              · cases h
              exact appTo_st h hb
            · cases h
          · cases h
        · cases h
      · cases h
    · cases h
  · cases h
theorem Stat.mapPut {c : Ctx} {t : TypeId} {x key val r : AV} {m m' : Mem} (h : evMapPut c t x key val m = .ok r m') : Stat c m m' := by
  unfold evMapPut at h
  split at h
  · split at h
    · rename_i td _
      cases hk : keyTd td key <;> rw [hk] at h
      · cases h
      simp only [cond_true] at h
      split at h
      · rename_i b
        split at h
        · rename_i l n sz hrow
          obtain ⟨tr, hl, _⟩ := rowMap_ok hrow
          cases hb : Nat.ble c.bar b <;> rw [hb] at h
          · cases h
          simp only [cond_true] at h
          split at h
          · injection h with h1 h2; subst h2; exact Stat.put (Nat.le_of_ble_eq_true hb) hl.2
          · injection h with h1 h2; subst h2; exact Stat.put (Nat.le_of_ble_eq_true hb) hl.2
          · cases h
        · cases h
      · cases h
    · cases h
  · cases h
theorem Stat.newMap {c : Ctx} {m : Mem} (hb : c.bar ≤ m.cnt) : Stat c m (newMapM m) := by
  refine ⟨by simp [newMapM], fun b hb' => Tr.get_set_ne _ _ _ _ (by omega), fun hw b x hx => ?_⟩
  show b < m.cnt + 1
  rcases m.h.get_set _ _ _ _ hx with ⟨h1, _⟩ | ⟨_, h2⟩
  · omega
  · have := hw b x h2
    omega
theorem ret_st {c : Ctx} {v : Option AV} {m m' : Mem} {r : AV} (h : ret v m = .ok r m') : Stat c m m' := by
  rw [(ret_ok h).2]
  exact Stat.refl _ _
theorem evCall_st {c : Ctx} {env : Nat → Option AV} {cl : Nat → List AV → Mem → RV} {k : Call} {m m' : Mem} {v : AV} (h : evCall c env cl k m = .ok v m') (hcl : CallSt c cl) (hb : c.bar ≤ m.cnt) : Stat c m m' := by
  unfold evCall at h
  split at h
  · split at h
    · rename_i fn l args h1 h2
      cases hm : mayEnter c.P fn <;> rw [hm] at h
      · cases h
      exact hcl _ _ _ _ _ h hb
    · rename_i fn fs l args h1 h2
      cases hm : mayEnter c.P fn <;> rw [hm] at h
      · cases h
      exact hcl _ _ _ _ _ h hb
    · cases h
  · split at h
    · exact ret_st h
    · exact ret_st h
    · cases h
  · split at h
    · exact evAppend_st h hb
    · cases h
  · split at h
    · exact ret_st h
    · cases h
  · split at h
    · exact ret_st h
    · cases h
  · cases h
theorem evOper_st {c : Ctx} {env : Nat → Option AV} {cl : Nat → List AV → Mem → RV} {op : Op} {m m' : Mem} {v : AV} (h : evOper c env cl op m = .ok v m') (hcl : CallSt c cl) (hb : c.bar ≤ m.cnt) : Stat c m m' := by
  unfold evOper at h
  split at h
  case h_4 =>
    unfold evAlloc at h
    split at h
    · injection h with h1 h2; subst h2; exact Stat.new hb _ _ _
    · cases h
  case h_5 =>
    split at h
    · unfold evBox at h
      injection h with h1 h2; subst h2; exact Stat.new hb _ _ _
    · cases h
  case h_7 =>
    rename_i t n ps
    split at h
    · unfold evBuildSlice at h
      split at h
      · split at h
        · rename_i s z _ _
          cases hb1 : Nat.ble (n * s) 16777216 <;> rw [hb1] at h
          · cases h
          cases hb2 : Nat.ble n 16777216 <;> rw [hb2] at h
          · cases h
          cases hb3 : Nat.beq z.length s <;> rw [hb3] at h
          · cases h
          simp only [cond_true] at h
          split at h
          · injection h with h1 h2; subst h2; exact Stat.new hb _ _ _
          · cases h
        · cases h
      · cases h
    · cases h
  case h_9 =>
    split at h
    · exact evStore_st h
    · cases h
  case h_10 =>
    split at h
    · rename_i u hu
      cases hs : u.sure <;> rw [hs] at h
      · cases h
      injection h with h1 h2; subst h2; exact Stat.refl _ _
    · cases h
  case h_20 =>
    split at h
    · injection h with h1 h2; subst h2; exact Stat.refl _ _
    · injection h with h1 h2; subst h2; exact Stat.refl _ _
    · cases h
  case h_21 => exact evCall_st h hcl hb
  case h_23 =>
    split at h
    · exact Stat.mapPut h
    · cases h
  case h_24 =>
    split at h
    · exact Stat.mapPut h
    · cases h
  case h_25 =>
    split at h
    · unfold evMakeMap at h
      split at h
      · injection h with h1 h2; subst h2; exact Stat.newMap hb
      · split at h
        · injection h with h1 h2; subst h2; exact Stat.newMap hb
        · cases h
      · cases h
    · cases h
  all_goals first
    | exact ret_st h
    | (split at h <;> first | exact ret_st h | cases h)
    | (split at h
       · rename_i z _ _ _ _ _ _
         revert h
         generalize isConst _ = cc
         intro h
         cases cc
         · cases h
         · exact ret_st h
       · exact ret_st h
       · cases h)
    | cases h

end Go.Proofs.YtajmkdbokdjmeaaGreat
/- An evaluator: a region that draws its order: what is seen while it goes on. Kit only. -/
namespace Go.Proofs.YtajmkdbokdjmeaaGreat
open Go.RowKit
/-- What the evaluator has of a region's first operations. -/
structure Told (c : Ctx) (cl : Ctx → Nat → List AV → Mem → RV) (nt : Nat) (ops : Array Oper) (dsts : List (Option Nat)) (tm : Tr AV) (ms : Tr Nat) (st : List (Nat × Nat)) (g : Nat → Row) (N : Nat → Mem) (s : Nat) : Prop where
  step : ∀ j, j < s → ∃ o mask, ops[j]? = some o ∧ StepAt c cl nt ops dsts tm ms st (N 0).cnt g N j o mask
  dsts : ∀ j, j < s → ∀ o, ops[j]? = some o → o.dst ∈ dsts
  bar : c.bar ≤ (N 0).cnt
  wf : (N 0).wf
  uniq : uniqSt st = true
  oks : okSt c (N 0) st = true
  mask : MaskOK ops ops.size s ms
  sle : s ≤ ops.size
  le : ∀ j, j < s → (N j).cnt ≤ (N (j + 1)).cnt
  keep : ∀ j, j < s → ∀ x, x < (N j).cnt → stOf st j ≠ some x → (N (j + 1)).h.get x = (N j).h.get x
  wfs : ∀ j, j < s → (N j).wf → (N 0).cnt ≤ (N j).cnt → (N (j + 1)).wf
theorem Told.mk' {c : Ctx} {cl : Ctx → Nat → List AV → Mem → RV} {nt : Nat} {ops : Array Oper} {dsts : List (Option Nat)} {tm : Tr AV} {ms : Tr Nat} {st : List (Nat × Nat)} {g : Nat → Row} {N : Nat → Mem} {s : Nat} (hcl : ∀ c', CallSt c' (cl c')) (h1 : ∀ j, j < s → ∃ o mask, ops[j]? = some o ∧ StepAt c cl nt ops dsts tm ms st (N 0).cnt g N j o mask)
    (h2 : ∀ j, j < s → ∀ o, ops[j]? = some o → o.dst ∈ dsts) (h3 : c.bar ≤ (N 0).cnt) (h4 : (N 0).wf) (h5 : uniqSt st = true) (h6 : okSt c (N 0) st = true) (h7 : MaskOK ops ops.size s ms) (h8 : s ≤ ops.size) : Told c cl nt ops dsts tm ms st g N s := by
  refine ⟨h1, h2, h3, h4, h5, h6, h7, h8, fun j hj => ?_, fun j hj x hx hne => ?_, fun j hj hw h0 => ?_⟩
  · obtain ⟨o, mask, ho, hs⟩ := h1 j hj
    exact hs.le
  · obtain ⟨o, mask, ho, hs⟩ := h1 j hj
    rcases hs.told with ⟨_, _, _, ht⟩ | ⟨b, m1, r, _, hb, _, _, _, _, _, _, hm⟩ | ⟨_, _, ht⟩
    · exact (evOper_st ht (hcl _) (Nat.le_refl _)).2.1 x hx
    · rw [hm]
      exact Tr.get_set_ne _ _ _ _ (fun e => hne (by rw [hb, e]))
    · rw [ht]
  · obtain ⟨o, mask, ho, hs⟩ := h1 j hj
    rcases hs.told with ⟨_, _, _, ht⟩ | ⟨b, m1, r, _, hb, _, hb0, _, _, _, _, hm⟩ | ⟨_, _, ht⟩
    · exact (evOper_st ht (hcl _) (Nat.le_refl _)).2.2 hw
    · rw [hm]
      intro x y hx
      show x < (N j).cnt
      rcases (N j).h.get_set _ _ _ _ hx with ⟨e, _⟩ | ⟨_, h6⟩
      · omega
      · exact hw x y h6
    · rw [ht]; exact hw
section
variable {c : Ctx} {cl : Ctx → Nat → List AV → Mem → RV} {nt : Nat} {ops : Array Oper} {dsts : List (Option Nat)} {tm : Tr AV} {ms : Tr Nat} {st : List (Nat × Nat)} {g : Nat → Row} {N : Nat → Mem} {s : Nat}
theorem Told.cnt (h : Told c cl nt ops dsts tm ms st g N s) {j : Nat} : ∀ {k : Nat}, j ≤ k → k ≤ s → (N j).cnt ≤ (N k).cnt
  | 0, h1, _ => by
    have : j = 0 := by omega
    subst this
    exact Nat.le_refl _
  | k + 1, h1, h2 => by
    rcases Nat.lt_or_ge k j with h3 | h3
    · have : j = k + 1 := by omega
      subst this
      exact Nat.le_refl _
    · exact Nat.le_trans (Told.cnt h h3 (by omega)) (h.le k (by omega))
theorem Told.same (h : Told c cl nt ops dsts tm ms st g N s) {j x : Nat} (hx : x < (N j).cnt) : ∀ {k : Nat}, j ≤ k → k ≤ s → (∀ q, j ≤ q → q < k → stOf st q ≠ some x) → (N k).h.get x = (N j).h.get x
  | 0, h1, _, _ => by
    have : j = 0 := by omega
    subst this
    rfl
  | k + 1, h1, h2, h4 => by
    rcases Nat.lt_or_ge k j with h3 | h3
    · have : j = k + 1 := by omega
      subst this
      rfl
    · rw [h.keep k (by omega) x (Nat.lt_of_lt_of_le hx (h.cnt h3 (by omega))) (h4 k h3 (by omega))]
      exact Told.same h hx h3 (by omega) (fun q h5 h6 => h4 q h5 (by omega))
theorem Told.wfAt (h : Told c cl nt ops dsts tm ms st g N s) : ∀ {k : Nat}, k ≤ s → (N k).wf
  | 0, _ => h.wf
  | k + 1, hk => h.wfs k (by omega) (Told.wfAt h (by omega)) (h.cnt (Nat.zero_le k) (by omega))
theorem Told.lo (h : Told c cl nt ops dsts tm ms st g N s) {j : Nat} (hj : j < s) : (g j).lo = (N j).cnt := by
  obtain ⟨o, mask, _, hs⟩ := h.step j hj
  exact hs.lo
theorem Told.hi (h : Told c cl nt ops dsts tm ms st g N s) {j : Nat} (hj : j < s) : (g j).hi = (N (j + 1)).cnt := by
  obtain ⟨o, mask, _, hs⟩ := h.step j hj
  exact hs.hi
theorem Told.one (h : Told c cl nt ops dsts tm ms st g N s) {j k x : Nat} (hj : stOf st j = some x) (hk : stOf st k = some x) : j = k := uniqSt_ok st h.uniq (stOf_mem st hj) (stOf_mem st hk)
theorem Told.apart (h : Told c cl nt ops dsts tm ms st g N s) {j k b : Nat} (hj : j < s) (hk : k < s) (h1 : (g j).lo ≤ b) (h2 : b < (g j).hi) (h3 : (g k).lo ≤ b) (h4 : b < (g k).hi) : j = k := by
  rw [h.lo hj] at h1
  rw [h.hi hj] at h2
  rw [h.lo hk] at h3
  rw [h.hi hk] at h4
  rcases Nat.lt_trichotomy j k with h5 | h5 | h5
  · have := h.cnt (j := j + 1) (k := k) (by omega) (by omega)
    omega
  · exact h5
  · have := h.cnt (j := k + 1) (k := j) (by omega) (by omega)
    omega
theorem Told.tile (T : Told c cl nt ops dsts tm ms st g N s) {b : Nat} (h1 : (N 0).cnt ≤ b) : ∀ k, k ≤ s → b < (N k).cnt → ∃ j, j < k ∧ (g j).lo ≤ b ∧ b < (g j).hi
  | 0, _, h => by omega
  | k + 1, hk, h => by
    rcases Nat.lt_or_ge b (N k).cnt with h2 | h2
    · obtain ⟨j, h3, h4⟩ := Told.tile T h1 k (by omega) h2
      exact ⟨j, by omega, h4⟩
    · exact ⟨k, by omega, by rw [T.lo (by omega)]; exact h2, by rw [T.hi (by omega)]; exact h⟩
end
/-- A block whose store is still to come. -/
def Pend (st : List (Nat × Nat)) (s : Nat) (listed : Array Bool) (x : Nat) : Prop := ∃ q, q < s ∧ stOf st q = some x ∧ listed[q]? ≠ some true
/-- What is seen. -/
def SeenD (c : Ctx) (g : Nat → Row) (s : Nat) (listed : Array Bool) (x : Nat) : Prop := seenIn c.hid x = true ∧ ∀ j, j < s → listed[j]? ≠ some true → x < (g j).lo ∨ (g j).hi ≤ x
def LiveD (c : Ctx) (st : List (Nat × Nat)) (g : Nat → Row) (N : Nat → Mem) (s : Nat) (listed : Array Bool) (x : Nat) (t : Tr AV) (e : TypeId) (sz : Nat) : Prop :=
  SeenD c g s listed x ∧ ((Pend st s listed x ∧ (N 0).h.get x = some (.row t e sz)) ∨ (¬ Pend st s listed x ∧ (N s).h.get x = some (.row t e sz)))
structure Inv (c : Ctx) (nt : Nat) (D : List Deferred) (ops : Array Oper) (dsts : List (Option Nat)) (tm : Tr AV) (st : List (Nat × Nat)) (g : Nat → Row) (N : Nat → Mem) (s : Nat) (ρ : Env) (W0 : World) (listed : Array Bool) (ρ' : Env) (a : Act) (W : World) : Prop where
  size : listed.size = ops.size
  closed : Closed ops listed
  rest : ∀ i, s ≤ i → i < ops.size → listed[i]? = some false
  frame : a.tmps.size = nt ∧ a.defers = D
  base : ∀ t v, some t ∉ dsts → tm.get t = some v → Rep ρ' v (a.tmps.getD t undef)
  done : ∀ j, j < s → listed[j]? = some true → ∀ t, (g j).dst = some t → Rep ρ' (g j).v (a.tmps.getD t undef)
  le : ρ.le ρ'
  new : ∀ b, b < (N 0).cnt ∨ (N s).cnt ≤ b → ρ' b = ρ b
  os : W.os = W0.os
  tape : W.tape = W0.tape
  output : W.output = W0.output
  grow : W0.heap.size ≤ W.heap.size
  stay : ∀ q, q < W0.heap.size → (∀ b t e sz k, c.bar ≤ b → Live c (N 0) b t e sz → ρ b ≠ some (q, k)) → W.heap[q]? = W0.heap[q]?
  back : ∀ b t e sz q k, c.bar ≤ b → LiveD c st g N s listed b t e sz → ρ' b = some (q, k) → q < W0.heap.size → ∃ b0 t0 e0 sz0 k0, c.bar ≤ b0 ∧ Live c (N 0) b0 t0 e0 sz0 ∧ ρ b0 = some (q, k0)
  row : ∀ b t e sz, LiveD c st g N s listed b t e sz → ∃ q k, ρ' b = some (q, k) ∧ RowRep ρ' W q k t e sz
  inj : ∀ b t e sz b' t' e' sz' q k k', LiveD c st g N s listed b t e sz → LiveD c st g N s listed b' t' e' sz' → ρ' b = some (q, k) → ρ' b' = some (q, k') → b = b'
  glo : ∀ x, x < c.ng → ∃ k, ρ' x = some (x, k)
  free : ∀ j, j < s → listed[j]? = some false → Free ρ' (g j).lo (g j).hi
section
variable {c : Ctx} {cl : Ctx → Nat → List AV → Mem → RV} {nt : Nat} {ops : Array Oper} {dsts : List (Option Nat)} {tm : Tr AV} {ms : Tr Nat} {st : List (Nat × Nat)} {g : Nat → Row} {N : Nat → Mem} {s : Nat}
theorem Inv.env {D : List Deferred} {ρ ρ' : Env} {W0 W : World} {listed : Array Bool} {a : Act} (I : Inv c nt D ops dsts tm st g N s ρ W0 listed ρ' a W) (T : Told c cl nt ops dsts tm ms st g N s) {j mask : Nat} (hj : j < s) (hm : ∀ k, mask.testBit k = true → listed[k]? = some true) : EvR ρ' (envOf mask (upto g j) dsts tm) a := by
  intro t v h
  rcases rowsAt_some _ h with ⟨r, hr, h1, h2, h3⟩ | h1
  · obtain ⟨k, hk, rfl⟩ := upto_mem hr
    obtain ⟨o, mk, _, hs⟩ := T.step k (by omega)
    rw [hs.idx, bitOf_eq] at h2
    rw [h3]
    exact I.done k (by omega) (hm k h2) t h1
  · cases hd : hasDst dsts t <;> rw [hd] at h1
    · exact I.base t v (fun hm => by rw [(hasDst_iff dsts).2 hm] at hd; cases hd) h1
    · cases h1
theorem Told.below (T : Told c cl nt ops dsts tm ms st g N s) {i j : Nat} (hi : i < ops.size) (h : Reach ops i j) : j < i := by
  induction h with
  | edge ho he hb => exact T.mask.low _ _ hi ho _ he hb
  | more ho he hb _ ih =>
    have := T.mask.low _ _ hi ho _ he hb
    have := ih (by omega)
    omega
  | part _ _ hlt _ _ => exact hlt
theorem Told.stc (T : Told c cl nt ops dsts tm ms st g N s) {q x : Nat} (h : stOf st q = some x) : c.bar ≤ x ∧ x < (N 0).cnt ∧ ∃ t e sz, Live c (N 0) x t e sz := okSt_ok st T.oks (stOf_mem st h)
/-- The memory ahead of number j, as it is seen. -/
theorem Told.mem {listed : Array Bool} (T : Told c cl nt ops dsts tm ms st g N s) (hC : Closed ops listed) {j mask : Nat} (hj : j < s) (hjl : listed[j]? ≠ some true) (hm : ∀ k, mask.testBit k = true → listed[k]? = some true) (hbits : ms.get j = some mask) (_hn : stOf st j = none) :
    (∀ b t e sz, Live (ctxG c ms st mask j (upto g j) (N j).cnt) (N j) b t e sz → LiveD c st g N s listed b t e sz) := by
  intro b t e sz h
  obtain ⟨h1, h2⟩ := h
  have hlt := T.wfAt (k := j) (by omega) _ _ h2
  unfold ctxG at h1
  rw [seenIn_iff] at h1
  have hseen : SeenD c g s listed b := by
    refine ⟨(seenIn_iff _ _).2 (fun r hr => h1 r (by simp [hr])), fun k hk hl => ?_⟩
    rcases Nat.lt_or_ge b (g k).lo with h3 | h3
    · exact .inl h3
    · rcases Nat.lt_or_ge b (g k).hi with h4 | h4
      · exfalso
        have hkj : k < j := by
          rcases Nat.lt_or_ge k j with h5 | h5
          · exact h5
          · have := T.cnt (j := j) (k := k) h5 (by omega)
            rw [T.lo hk] at h3
            omega
        obtain ⟨o, mk, _, hs⟩ := T.step k hk
        have hb : bitOf mask (g k).idx = false := by
          rw [hs.idx, bitOf_eq]
          cases hq : mask.testBit k
          · rfl
          · exact absurd (hm k hq) hl
        have := h1 _ (List.mem_append.2 (.inr (List.mem_append.2 (.inl (hidOf_mem _ (mem_upto hkj) hb (by omega))))))
        simp only at this
        omega
      · exact .inr h4
  refine ⟨hseen, ?_⟩
  by_cases hst : ∃ q, q < s ∧ stOf st q = some b
  · obtain ⟨q, hq, hqb⟩ := hst
    have hq0 := (T.stc hqb).2.1
    by_cases hbit : bitOf mask q = true
    · rw [bitOf_eq] at hbit
      have hqj := T.below (i := j) (by have := T.sle; omega) (T.mask.bits _ _ hbits q hbit)
      right
      refine ⟨fun ⟨q', _, h3, h4⟩ => h4 (by rw [T.one h3 hqb]; exact hm q hbit), ?_⟩
      rw [T.same hlt (k := s) (by omega) (Nat.le_refl _) (fun q' h3 _ h4 => by have := T.one h4 hqb; omega)]
      exact h2
    · by_cases hat : bitAt ms q j = true
      · unfold bitAt at hat
        split at hat
        · rename_i k hk
          rw [bitOf_eq] at hat
          have hr := T.mask.bits _ _ hk j hat
          have hjq := T.below (i := q) (by have := T.sle; omega) hr
          left
          refine ⟨⟨q, hq, hqb, fun h5 => hjl (hC.reach hr h5)⟩, ?_⟩
          rw [← T.same hq0 (k := j) (Nat.zero_le _) (by omega) (fun q' _ h3 h4 => by have := T.one h4 hqb; omega)]
          exact h2
        · cases hat
      · exfalso
        have := h1 _ (List.mem_append.2 (.inl (mem_hidSt st (stOf_mem st hqb) (by simpa using hbit) (by simpa using hat))))
        simp only at this
        omega
  · right
    refine ⟨fun ⟨q, hq, hqb, _⟩ => hst ⟨q, hq, hqb⟩, ?_⟩
    rw [T.same hlt (k := s) (by omega) (Nat.le_refl _) (fun q _ hq e => hst ⟨q, hq, e⟩)]
    exact h2
theorem Inv.hrep {D : List Deferred} {ρ ρ' : Env} {W0 W : World} {listed : Array Bool} {a : Act} (I : Inv c nt D ops dsts tm st g N s ρ W0 listed ρ' a W) (T : Told c cl nt ops dsts tm ms st g N s) {j mask : Nat} (hj : j < s) (hjl : listed[j]? ≠ some true) (hm : ∀ k, mask.testBit k = true → listed[k]? = some true) (hbits : ms.get j = some mask) (hn : stOf st j = none) :
    HRep (ctxG c ms st mask j (upto g j) (N j).cnt) ρ' (N j) W := by
  have hl := T.mem I.closed hj hjl hm hbits hn
  exact ⟨fun b t e sz h => I.row b t e sz (hl _ _ _ _ h), fun b t e sz b' t' e' sz' q k k' h h' h1 h2 => I.inj _ _ _ _ _ _ _ _ _ _ _ (hl _ _ _ _ h) (hl _ _ _ _ h') h1 h2, I.glo⟩
/-- A store's block, as it is seen. -/
theorem Told.memB {listed : Array Bool} (T : Told c cl nt ops dsts tm ms st g N s) {j b : Nat} (hj : j < s) (hjl : listed[j]? ≠ some true) (hb : stOf st j = some b) :
    (∀ x t e sz, Live (ctxB c b (N j).cnt) (N j) x t e sz → x = b ∧ LiveD c st g N s listed x t e sz) := by
  intro x t e sz h
  obtain ⟨h1, h2⟩ := h
  have hlt := T.wfAt (k := j) (by omega) _ _ h2
  unfold ctxB at h1
  rw [seenIn_iff] at h1
  have e1 := h1 (0, b) (by simp)
  have e2 := h1 (b + 1, (N j).cnt) (by simp)
  simp only at e1 e2
  have hx : x = b := by omega
  subst hx
  obtain ⟨h3, h4, _, _, _, h5, _⟩ := T.stc hb
  refine ⟨rfl, ⟨h5, fun k hk _ => .inl ?_⟩, .inl ⟨⟨j, hj, hb, hjl⟩, ?_⟩⟩
  · rw [T.lo hk]
    have := T.cnt (j := 0) (k := k) (by omega) (by omega)
    omega
  · rw [← T.same h4 (k := j) (Nat.zero_le _) (by omega) (fun q _ h6 h7 => by have := T.one h7 hb; omega)]
    exact h2
theorem Inv.hrepB {D : List Deferred} {ρ ρ' : Env} {W0 W : World} {listed : Array Bool} {a : Act} (I : Inv c nt D ops dsts tm st g N s ρ W0 listed ρ' a W) (T : Told c cl nt ops dsts tm ms st g N s) {j b : Nat} (hj : j < s) (hjl : listed[j]? ≠ some true) (hb : stOf st j = some b) : HRep (ctxB c b (N j).cnt) ρ' (N j) W := by
  have hl := T.memB (listed := listed) hj hjl hb
  exact ⟨fun b t e sz h => I.row b t e sz (hl _ _ _ _ h).2, fun b t e sz b' t' e' sz' q k k' h h' h1 h2 => I.inj _ _ _ _ _ _ _ _ _ _ _ (hl _ _ _ _ h).2 (hl _ _ _ _ h').2 h1 h2, fun x hx => by simp [ctxB] at hx⟩
theorem set_get {listed : Array Bool} {i k : Nat} (hi : i < listed.size) : (listed.setIfInBounds i true)[k]? = if k = i then some true else listed[k]? := by
  by_cases h : k = i
  · subst h; simp [hi]
  · rw [Array.getElem?_setIfInBounds_ne (fun e => h e.symm), if_neg h]
/-- The frame behind one operation more. -/
theorem Inv.tmps {D : List Deferred} {ρ ρ' ρ2 : Env} {W0 W : World} {listed : Array Bool} {a : Act} (I : Inv c nt D ops dsts tm st g N s ρ W0 listed ρ' a W) (T : Told c cl nt ops dsts tm ms st g N s) {j : Nat} (hj : j < s) {o : Oper} (ho : ops[j]? = some o) {V : Value} (hv : Rep ρ2 (g j).v V) (hle : ρ'.le ρ2) :
    ((a.put o.dst V).tmps.size = nt ∧ (a.put o.dst V).defers = D) ∧ (∀ t v, some t ∉ dsts → tm.get t = some v → Rep ρ2 v ((a.put o.dst V).tmps.getD t undef)) ∧
      ∀ k, k < s → (listed.setIfInBounds j true)[k]? = some true → ∀ t, (g k).dst = some t → Rep ρ2 (g k).v ((a.put o.dst V).tmps.getD t undef) := by
  have hjl : j < listed.size := by rw [I.size]; have := T.sle; omega
  have hget : ∀ k, (listed.setIfInBounds j true)[k]? = if k = j then some true else listed[k]? := fun k => set_get hjl
  obtain ⟨o', mk, ho', hsj⟩ := T.step j hj
  rw [ho] at ho'
  injection ho' with ho'
  subst ho'
  refine ⟨⟨?_, ?_⟩, fun t v ht hv' => ?_, fun k hk hkl t ht => ?_⟩
  · unfold Act.put
    split <;> simp [I.frame.1]
  · unfold Act.put
    split <;> exact I.frame.2
  · have hne : o.dst ≠ some t := fun e => ht (e ▸ T.dsts j hj o ho)
    have := (I.base t v ht hv').mono hle
    cases hd : o.dst with
    | none => exact this
    | some d =>
      have hdt : t ≠ d := fun e => hne (by rw [hd, e])
      obtain ⟨hdn, _⟩ := freshDst_ok (by have := hsj.fresh; rw [hd] at this; exact this)
      show Rep ρ2 v ((a.tmps.setIfInBounds d V).getD t undef)
      rw [getD_put (by rw [I.frame.1]; exact hdn), if_neg hdt]
      exact this
  · rw [hget] at hkl
    by_cases hkj : k = j
    · subst hkj
      rw [hsj.dst] at ht
      obtain ⟨hdn, _⟩ := freshDst_ok (by have := hsj.fresh; rw [ht] at this; exact this)
      rw [ht]
      show Rep ρ2 _ ((a.tmps.setIfInBounds t V).getD t undef)
      rw [getD_put (by rw [I.frame.1]; exact hdn), if_pos rfl]
      exact hv
    · rw [if_neg hkj] at hkl
      have h1 := (I.done k hk hkl t ht).mono hle
      cases hd : o.dst with
      | none => exact h1
      | some d =>
        obtain ⟨hdn, hfr⟩ := freshDst_ok (by have := hsj.fresh; rw [hd] at this; exact this)
        have hdt : t ≠ d := by
          rintro rfl
          rcases Nat.lt_or_ge k j with h2 | h2
          · exact hfr _ (mem_upto h2) ht
          · obtain ⟨ok, mkk, hok, hsk⟩ := T.step k hk
            rw [hsk.dst] at ht
            have := hsk.fresh
            rw [ht] at this
            exact (freshDst_ok this).2 _ (mem_upto (show j < k by omega)) (by rw [hsj.dst, hd])
        show Rep ρ2 _ ((a.tmps.setIfInBounds d V).getD t undef)
        rw [getD_put (by rw [I.frame.1]; exact hdn), if_neg hdt]
        exact h1
end

end Go.Proofs.YtajmkdbokdjmeaaGreat
