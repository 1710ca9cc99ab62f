/- Merged: O5, O6, O7, O8, O9. -/
import Derived.Test.YtajmkdbokdjmeaaGreatMk10
/- An evaluator: parts, addresses, slices, conversions. Kit only. -/
namespace Go.Proofs.YtajmkdbokdjmeaaGreat
open Go.RowKit
noncomputable def evUn (op : UnOp) : AV → Option AV
  | .int k n =>
    match op with
    | .neg => some (.int k (k.wrap (0 - n)))
    | .xor => some (.int k (k.wrap (BitVec.ofInt k.bits (if k.signed then -1 else k.max) ^^^ BitVec.ofInt k.bits n).toNat))
    | _ => none
  | .bool b =>
    match op with
    | .not => some (.bool !b)
    | _ => none
  | _ => none
theorem evUn_ok {P : Program} {W : World} {ρ : Env} {op : UnOp} {x r : AV} {X : Value} (h : evUn op x = some r) (hx : Rep ρ x X) : Gives P (Op.unary op X) W ρ r := by
  unfold evUn at h
  split at h
  · simp only [Rep] at hx
    subst hx
    split at h
    · injection h with h; subst h; exact ⟨_, by simp [Op.unary, Op.intArith]; rfl, by simp [Rep]⟩
    · injection h with h; subst h; exact ⟨_, by simp [Op.unary, Op.intBits]; rfl, by simp [Rep]⟩
    · cases h
  · simp only [Rep] at hx
    subst hx
    split at h
    · injection h with h; subst h; exact ⟨_, by simp [Op.unary]; rfl, by simp [Rep]⟩
    · cases h
  · cases h
noncomputable def evConv (P : Program) (src dst : TypeId) (x : AV) : Option AV :=
  match P.underlying src, P.underlying dst, x with
  | some _, some (.int k), .int _ n => some (.int k (k.wrap n))
  | some _, some .string, .int _ n => some (.str (Utf8.encode n).data.toList)
  | some _, some .string, .str s => some (.str s)
  | _, _, _ => none
theorem evConv_ok {P : Program} {W : World} {ρ : Env} {src dst : TypeId} {x r : AV} {X : Value} (h : evConv P src dst x = some r) (hx : Rep ρ x X) : Gives P (convert src dst X) W ρ r := by
  unfold evConv at h
  split at h
  · rename_i d k k0 n h1 h2
    simp only [Rep] at hx
    subst hx
    injection h with h; subst h
    exact ⟨.int k (k.wrap n), by unfold convert; simp only [Sem.run_bind, run_underlying h1, run_underlying h2, Result.andThen_ok]; rfl, by simp [Rep]⟩
  · rename_i d k n h1 h2
    simp only [Rep] at hx
    subst hx
    injection h with h; subst h
    exact ⟨.string (Utf8.encode n), by unfold convert; simp only [Sem.run_bind, run_underlying h1, run_underlying h2, Result.andThen_ok]; rfl, by simp [Rep]⟩
  · rename_i d s h1 h2
    simp only [Rep] at hx
    subst hx
    injection h with h; subst h
    exact ⟨.string ⟨s.toArray⟩, by unfold convert; simp only [Sem.run_bind, run_underlying h1, run_underlying h2, Result.andThen_ok]; rfl, by simp [Rep]⟩
  · cases h
/-- Is a type one of several cells, and how many has it? -/
def aggSz (P : Program) (t : TypeId) : Option (Bool × Nat) :=
  match P.underlying t, P.info? t with
  | some (.struct _), some i => some (true, i.size)
  | some (.array _ _), some i => some (true, i.size)
  | some _, some i => some (false, i.size)
  | _, _ => none
theorem aggSz_run {P : Program} {t : TypeId} {b : Bool} {n : Nat} (h : aggSz P t = some (b, n)) (W : World) : (isAgg t).run P W = .ok b W ∧ (sizeOf t).run P W = .ok n W := by
  unfold aggSz at h
  split at h
  · rename_i h1 h2
    injection h with h; injection h with h3 h4; subst h3; subst h4
    exact ⟨by simp [isAgg, run_underlying h1], by simp [sizeOf, typeInfo, h2]⟩
  · rename_i h1 h2
    injection h with h; injection h with h3 h4; subst h3; subst h4
    exact ⟨by simp [isAgg, run_underlying h1], by simp [sizeOf, typeInfo, h2]⟩
  · rename_i d i h0 h0' h1 h2
    injection h with h; injection h with h3 h4; subst h3; subst h4
    refine ⟨?_, by simp [sizeOf, typeInfo, h2]⟩
    unfold isAgg
    simp only [Sem.run_bind, run_underlying h1, Result.andThen_ok]
    simp
  · cases h
noncomputable def evPart (P : Program) (t : TypeId) (l : List AV) (o : Nat) : Option AV :=
  match aggSz P t with
  | some (true, n) => some (.agg ((l.drop o).take n))
  | some (false, _) => l[o]?
  | none => none
theorem evPart_ok {P : Program} {W : World} {ρ : Env} {t : TypeId} {l : List AV} {L : List Value} {o : Nat} {r : AV} (h : evPart P t l o = some r) (hl : RepL ρ l L) : Gives P (part t L.toArray o) W ρ r := by
  unfold evPart at h
  split at h
  · rename_i n ha
    obtain ⟨h1, h2⟩ := aggSz_run ha W
    injection h with h; subst h
    refine ⟨.agg ((L.drop o).take n).toArray, ?_, ?_⟩
    · unfold part
      simp only [Sem.run_bind, h1, Result.andThen_ok, if_true, h2, Sem.run_pure]
      congr 2
      apply Array.ext'
      simp
    · rw [Rep]
      exact ⟨_, (hl.drop o).take n, rfl⟩
  · rename_i n ha
    obtain ⟨h1, h2⟩ := aggSz_run ha W
    obtain ⟨V, h3, h4⟩ := hl.get _ _ o r h
    refine ⟨V, ?_, h4⟩
    unfold part
    simp [h1, h3]
  · cases h
noncomputable def evField (P : Program) (t : TypeId) (f : Nat) (x : AV) : Option AV :=
  match P.underlying t, x with
  | some (.struct fs), .agg l =>
    match fs[f]? with
    | some fd => evPart P fd.type l fd.offset
    | none => none
  | _, _ => none
theorem evField_ok {P : Program} {W : World} {ρ : Env} {t : TypeId} {f : Nat} {x r : AV} {X : Value} (h : evField P t f x = some r) (hx : Rep ρ x X) : Gives P (Instr.field t X f) W ρ r := by
  unfold evField at h
  split at h
  · rename_i fs l h1
    rw [Rep] at hx
    obtain ⟨L, h2, rfl⟩ := hx
    split at h
    · rename_i fd h3
      obtain ⟨V, h4, h5⟩ := evPart_ok (W := W) h h2
      refine ⟨V, ?_, h5⟩
      unfold Instr.field
      simp only [Sem.run_bind, run_underlying h1, Result.andThen_ok, h3, asAgg, Sem.run_pure]
      exact h4
    · cases h
  · cases h
noncomputable def evFieldAddr (P : Program) (t : TypeId) (f : Nat) (x : AV) : Option AV :=
  match P.underlying t, x with
  | some (.struct fs), .ptr b o =>
    match fs[f]? with
    | some fd =>
      match aggSz P fd.type with
      | some (_, n) => cond (Nat.beq n 0) none (some (.ptr b (o + fd.offset)))
      | none => none
    | none => none
  | _, _ => none
theorem addr_add (g o n : Nat) : (⟨g, o, none⟩ : Addr).add n = ⟨g, o + n, none⟩ := by
  unfold Addr.add
  split
  · rename_i h; subst h; rfl
  · rfl
theorem evFieldAddr_ok {P : Program} {W : World} {ρ : Env} {t : TypeId} {f : Nat} {x r : AV} {X : Value} (h : evFieldAddr P t f x = some r) (hx : Rep ρ x X) : Gives P (Instr.fieldAt t X f) W ρ r := by
  unfold evFieldAddr at h
  split at h
  · rename_i fs b o h1
    rw [Rep] at hx
    obtain ⟨g, k, h2, rfl⟩ := hx
    split at h
    · rename_i fd h3
      split at h
      · rename_i n0 n ha
        obtain ⟨_, h4⟩ := aggSz_run ha W
        cases hb : Nat.beq n 0 <;> rw [hb] at h
        · injection h with h; subst h
          have hn : n ≠ 0 := fun e => by subst e; cases hb
          refine ⟨.pointer (some ⟨g, o + fd.offset, none⟩), ?_, by rw [Rep]; exact ⟨g, k, h2, rfl⟩⟩
          unfold Instr.fieldAt fieldPlace
          simp [run_underlying h1, h3, Instr.sureAddr, h4, hn, addr_add]
        · cases h
      · cases h
    · cases h
  · cases h
noncomputable def evIndexAddr (P : Program) (t : TypeId) (x i : AV) : Option AV :=
  match P.underlying t, x, i with
  | some (.slice e), .slice b o n _, .int _ i =>
    match aggSz P e with
    | some (_, s) => cond (decide (0 ≤ i ∧ i < n)) (some (.ptr b (o + i.toNat * s))) none
    | none => none
  | some (.array n e), .ptr b o, .int _ i =>
    match aggSz P e with
    | some (_, s) => cond (decide (0 ≤ i ∧ i < n)) (some (.ptr b (o + i.toNat * s))) none
    | none => none
  | _, _, _ => none
theorem evIndexAddr_ok {P : Program} {W : World} {ρ : Env} {t : TypeId} {x i r : AV} {X I : Value} (h : evIndexAddr P t x i = some r) (hx : Rep ρ x X) (hi : Rep ρ i I) : Gives P (Instr.indexAt t X I) W ρ r := by
  unfold evIndexAddr at h
  split at h
  · rename_i e b o n cp k i h1
    simp only [Rep] at hx hi
    obtain ⟨g, q, h2, rfl, h3⟩ := hx
    subst hi
    split at h
    · rename_i z s ha
      obtain ⟨_, h4⟩ := aggSz_run ha W
      cases hb : decide (0 ≤ i ∧ i < n) <;> rw [hb] at h
      · cases h
      · injection h with h; subst h
        have hb' := of_decide_eq_true hb
        refine ⟨.pointer (some ⟨g, o + i.toNat * s, none⟩), ?_, by rw [Rep]; exact ⟨g, q, h2, rfl⟩⟩
        unfold Instr.indexAt
        simp [asIntOf, run_underlying h1, hb', h4, addr_add]
    · cases h
  · rename_i n e b o k i h1
    simp only [Rep] at hx hi
    obtain ⟨g, q, h2, rfl⟩ := hx
    subst hi
    split at h
    · rename_i z s ha
      obtain ⟨_, h4⟩ := aggSz_run ha W
      cases hb : decide (0 ≤ i ∧ i < n) <;> rw [hb] at h
      · cases h
      · injection h with h; subst h
        have hb' := of_decide_eq_true hb
        refine ⟨.pointer (some ⟨g, o + i.toNat * s, none⟩), ?_, by rw [Rep]; exact ⟨g, q, h2, rfl⟩⟩
        unfold Instr.indexAt
        simp [asIntOf, run_underlying h1, hb', h4, addr_add, Instr.sureAddr]
    · cases h
  · cases h
noncomputable def evIndex (P : Program) (t : TypeId) (x i : AV) : Option AV :=
  match P.underlying t, x, i with
  | some .string, .str s, .int _ i =>
    cond (decide (0 ≤ i)) (match s[i.toNat]? with | some b => some (.int .u8 b.toNat) | none => none) none
  | some (.array n e), .agg l, .int _ i =>
    match aggSz P e with
    | some (_, s) => cond (decide (0 ≤ i ∧ i < n)) (evPart P e l (i.toNat * s)) none
    | none => none
  | _, _, _ => none
theorem evIndex_ok {P : Program} {W : World} {ρ : Env} {t : TypeId} {x i r : AV} {X I : Value} (h : evIndex P t x i = some r) (hx : Rep ρ x X) (hi : Rep ρ i I) : Gives P (Instr.index t X I) W ρ r := by
  unfold evIndex at h
  split at h
  · rename_i s k i h1
    simp only [Rep] at hx hi
    subst hx; subst hi
    cases hb : decide (0 ≤ i) <;> rw [hb] at h
    · cases h
    · have hb' := of_decide_eq_true hb
      simp only [cond_true] at h
      split at h
      · rename_i b h2
        injection h with h; subst h
        refine ⟨.int .u8 b.toNat, ?_, by simp [Rep]⟩
        unfold Instr.index
        simp [asIntOf, run_underlying h1, hb', str_get, h2]
      · cases h
  · rename_i n e l k i h1
    simp only [Rep] at hx hi
    obtain ⟨L, h2, rfl⟩ := hx
    subst hi
    split at h
    · rename_i z s ha
      obtain ⟨_, h4⟩ := aggSz_run ha W
      cases hb : decide (0 ≤ i ∧ i < n) <;> rw [hb] at h
      · cases h
      · simp only [cond_true] at h
        have hb' := of_decide_eq_true hb
        obtain ⟨V, h5, h6⟩ := evPart_ok (W := W) h h2
        refine ⟨V, ?_, h6⟩
        unfold Instr.index
        simp [asIntOf, run_underlying h1, hb', h4, h5]
    · cases h
  · cases h
noncomputable def evExtract (i : Nat) : AV → Option AV
  | .tup l => l[i]?
  | _ => none
theorem evExtract_ok {P : Program} {W : World} {ρ : Env} {i : Nat} {x r : AV} {X : Value} (h : evExtract i x = some r) (hx : Rep ρ x X) : Gives P (Instr.extract X i) W ρ r := by
  unfold evExtract at h
  split at h
  · rw [Rep] at hx
    obtain ⟨L, h2, rfl⟩ := hx
    obtain ⟨V, h3, h4⟩ := h2.get _ _ i r h
    exact ⟨V, by simp [Instr.extract, h3], h4⟩
  · cases h

end Go.Proofs.YtajmkdbokdjmeaaGreat
/- An evaluator: slices of slices and strings; structs built. Kit only. -/
namespace Go.Proofs.YtajmkdbokdjmeaaGreat
open Go.RowKit
noncomputable def bnd (y : Nat) : AV → Option Nat
  | .int _ i => cond (decide (0 ≤ i ∧ i ≤ y)) (some i.toNat) none
  | _ => none
theorem bnd_ok {P : Program} {W : World} {ρ : Env} {y z n : Nat} {x : AV} {X : Value} {code : BoundsCode} (h : bnd y x = some n) (hx : Rep ρ x X) (hz : y ≤ z) : (Instr.sliceBound X z code).run P W = .ok n W ∧ n ≤ y := by
  unfold bnd at h
  split at h
  · rename_i k i
    simp only [Rep] at hx
    subst hx
    cases hb : decide (0 ≤ i ∧ i ≤ y) <;> rw [hb] at h
    · cases h
    · injection h with h; subst h
      have hb' := of_decide_eq_true hb
      have hz' : 0 ≤ i ∧ i ≤ (z : Int) := by omega
      exact ⟨by simp [Instr.sliceBound, asIntOf, hz'], by omega⟩
  · cases h
/-- The low and the high bound: low at most high, high at most y. -/
noncomputable def bnds (y len : Nat) (lo hi : Option AV) : Option (Nat × Nat) :=
  match (match hi with | some v => bnd y v | none => some len) with
  | some h =>
    match (match lo with | some v => bnd h v | none => some 0) with
    | some l => some (l, h)
    | none => none
  | none => none
/-- What stands for an operand that may be left out. -/
def RepO (ρ : Env) : Option AV → Option Value → Prop
  | none, V => V = none
  | some v, V => ∃ U, V = some U ∧ Rep ρ v U
theorem bnds_ok {P : Program} {W : World} {ρ : Env} {y len cap l h : Nat} {lo hi : Option AV} {Lo Hi : Option Value} (s : Bool) (hb : bnds y len lo hi = some (l, h)) (h1 : RepO ρ lo Lo) (h2 : RepO ρ hi Hi) (hy : y ≤ cap) (hl : len ≤ y) :
    (Instr.sliceBounds s len cap Lo Hi none).run P W = .ok (l, h, cap) W ∧ l ≤ h ∧ h ≤ y := by
  unfold bnds at hb
  split at hb
  · rename_i h' hh
    split at hb
    · rename_i l' hl'
      injection hb with hb
      injection hb with hb1 hb2
      subst hb1; subst hb2
      have hH : (match Hi with | some v => Instr.sliceBound v cap (if s then .sliceAcap else .sliceAlen) | none => (pure len : Sem Nat)).run P W = .ok h' W ∧ h' ≤ y := by
        cases hi with
        | none =>
          simp only [RepO] at h2
          subst h2
          injection hh with hh
          subst hh
          exact ⟨by simp, hl⟩
        | some v =>
          obtain ⟨U, rfl, hU⟩ := h2
          exact bnd_ok hh hU hy
      have hL : (match Lo with | some v => Instr.sliceBound v h' (if (none : Option Value).isSome then .slice3C else .sliceB) | none => (pure 0 : Sem Nat)).run P W = .ok l' W ∧ l' ≤ h' := by
        cases lo with
        | none =>
          simp only [RepO] at h1
          subst h1
          injection hl' with hl'
          subst hl'
          exact ⟨by simp, Nat.zero_le _⟩
        | some v =>
          obtain ⟨U, rfl, hU⟩ := h1
          exact bnd_ok hl' hU (Nat.le_refl _)
      refine ⟨?_, hL.2, hH.2⟩
      unfold Instr.sliceBounds
      cases Hi <;> cases Lo <;> simp_all
    · cases hb
  · cases hb
noncomputable def evSlice (P : Program) (t : TypeId) (x : AV) (lo hi : Option AV) : Option AV :=
  match P.underlying t, x with
  | some .string, .str s =>
    match bnds s.length s.length lo hi with
    | some (l, h) => some (.str ((s.drop l).take (h - l)))
    | none => none
  | some (.slice e), .nils =>
    match aggSz P e, bnds 0 0 lo hi with
    | some _, some _ => some .nils
    | _, _ => none
  | some (.slice e), .slice b o n (.known c) =>
    match aggSz P e, bnds c n lo hi with
    | some (_, s), some (l, h) => cond (Nat.ble n c) (cond (Nat.beq c l) (some (.slice b o (h - l) (.known 0))) (some (.slice b (o + l * s) (h - l) (.known (c - l))))) none
    | _, _ => none
  | some (.slice e), .slice b o n (.own q) =>
    match aggSz P e, bnds n n lo hi with
    | some (_, s), some (l, h) => cond (Nat.beq l 0) (some (.slice b o h (.own q))) (cond (Nat.blt l n) (some (.slice b (o + l * s) (h - l) (.own (q + l)))) none)
    | _, _ => none
  | some (.array m e), .ptr b o =>
    match aggSz P e, bnds m m lo hi with
    | some (_, s), some (l, h) => cond (Nat.beq m l) (some (.slice b o (h - l) (.known 0))) (some (.slice b (o + l * s) (h - l) (.known (m - l))))
    | _, _ => none
  | _, _ => none
theorem sliceAt_off {P : Program} {W : World} {t : TypeId} {X : Value} {lo hi mx : Option Value} {d : TypeDesc} (h : P.underlying t = some d) (hd : ∀ n e, d ≠ .array n e) : (Instr.sliceAt t X lo hi mx).run P W = (Instr.slice t X lo hi mx).run P W := by
  unfold Instr.sliceAt
  simp only [Sem.run_bind, run_underlying h, Result.andThen_ok]
theorem evSlice_ok {P : Program} {W : World} {ρ : Env} {t : TypeId} {x r : AV} {X : Value} {lo hi : Option AV} {Lo Hi : Option Value} (h : evSlice P t x lo hi = some r) (hx : Rep ρ x X) (h1 : RepO ρ lo Lo) (h2 : RepO ρ hi Hi) : Gives P (Instr.sliceAt t X Lo Hi none) W ρ r := by
  unfold evSlice at h
  split at h
  · rename_i s hu
    split at h
    · rename_i l hh hb
      simp only [Rep] at hx
      subst hx
      injection h with h; subst h
      obtain ⟨h3, h4, h5⟩ := bnds_ok (P := P) (W := W) (cap := s.length) false hb h1 h2 (Nat.le_refl _) (Nat.le_refl _)
      refine ⟨.string ⟨((s.drop l).take (hh - l)).toArray⟩, ?_, by simp [Rep]⟩
      rw [sliceAt_off hu (by intro _ _ e; cases e)]
      unfold Instr.slice
      simp only [Sem.run_bind, run_underlying hu, Result.andThen_ok]
      simp [str_size, h3, str_ext]
    · cases h
  · rename_i e hu
    split at h
    · rename_i z p ha hb
      obtain ⟨l, hh⟩ := p
      obtain ⟨za, zn⟩ := z
      obtain ⟨_, hs⟩ := aggSz_run ha W
      simp only [Rep] at hx
      subst hx
      injection h with h; subst h
      obtain ⟨h3, h4, h5⟩ := bnds_ok (P := P) (W := W) (cap := 0) true hb h1 h2 (Nat.le_refl _) (Nat.le_refl _)
      obtain rfl : hh = 0 := by omega
      obtain rfl : l = 0 := by omega
      refine ⟨.slice none 0 0, ?_, by simp [Rep]⟩
      rw [sliceAt_off hu (by intro _ _ e; cases e)]
      unfold Instr.slice
      simp only [Sem.run_bind, run_underlying hu, Result.andThen_ok, h3, hs]
      simp
    · cases h
  · rename_i e b o n c hu
    split at h
    · rename_i z s l hh ha hb
      cases hnc : Nat.ble n c <;> rw [hnc] at h
      · cases h
      have hnc' := Nat.le_of_ble_eq_true hnc
      rw [Rep] at hx
      obtain ⟨g, k, hg, rfl, hx2⟩ := hx
      obtain ⟨_, hs⟩ := aggSz_run ha W
      obtain ⟨h3, h4, h5⟩ := bnds_ok (P := P) (W := W) (cap := c) true hb h1 h2 (Nat.le_refl _) hnc'
      unfold Gives
      rw [sliceAt_off hu (by intro _ _ e; cases e)]
      unfold Instr.slice
      simp only [Sem.run_bind, run_underlying hu, Result.andThen_ok, Cap.under, h3, hs]
      simp only [cond_true] at h
      cases hcl : Nat.beq c l <;> rw [hcl] at h
      · have hne : c ≠ l := Nat.ne_of_beq_eq_false hcl
        injection h with h; subst h
        refine ⟨.slice (some ⟨g, o + l * s, none⟩) (hh - l) (c - l), by simp [hne, addr_add], ?_⟩
        rw [Rep]
        exact ⟨g, k, hg, rfl, by simp only [Cap.under]; omega⟩
      · have he := Nat.eq_of_beq_eq_true hcl
        subst he
        injection h with h; subst h
        refine ⟨.slice (some ⟨g, o, none⟩) (hh - c) 0, by simp, ?_⟩
        rw [Rep]
        exact ⟨g, k, hg, rfl, by simp only [Cap.under]; omega⟩
    · cases h
  · rename_i e b o n q hu
    split at h
    · rename_i z s l hh ha hb
      rw [Rep] at hx
      obtain ⟨g, k, hg, rfl, hx2⟩ := hx
      simp only [Cap.under] at hx2
      obtain ⟨_, hs⟩ := aggSz_run ha W
      obtain ⟨h3, h4, h5⟩ := bnds_ok (P := P) (W := W) (cap := k - q) true hb h1 h2 hx2 (Nat.le_refl _)
      unfold Gives
      rw [sliceAt_off hu (by intro _ _ e; cases e)]
      unfold Instr.slice
      simp only [Sem.run_bind, run_underlying hu, Result.andThen_ok, Cap.under, h3, hs]
      cases hl0 : Nat.beq l 0 <;> rw [hl0] at h
      · simp only [cond_false] at h
        cases hln : Nat.blt l n <;> rw [hln] at h
        · cases h
        have hln' : l < n := Nat.le_of_ble_eq_true hln
        have hne : ¬ k - q = l := by omega
        injection h with h; subst h
        refine ⟨.slice (some ⟨g, o + l * s, none⟩) (hh - l) (k - q - l), by simp [hne, addr_add], ?_⟩
        rw [Rep]
        exact ⟨g, k, hg, by simp only [Cap.under]; rw [Nat.sub_sub], by simp only [Cap.under]; omega⟩
      · have he := Nat.eq_of_beq_eq_true hl0
        subst he
        injection h with h; subst h
        refine ⟨.slice (some ⟨g, o, none⟩) hh (k - q), ?_, ?_⟩
        · by_cases hz : k - q = 0 <;> simp [hz, addr_add]
        · rw [Rep]
          exact ⟨g, k, hg, rfl, by simp only [Cap.under]; omega⟩
    · cases h
  · rename_i m e b o hu
    split at h
    · rename_i z s l hh ha hb
      rw [Rep] at hx
      obtain ⟨g, k, hg, rfl⟩ := hx
      obtain ⟨_, hs⟩ := aggSz_run ha W
      obtain ⟨h3, h4, h5⟩ := bnds_ok (P := P) (W := W) (cap := m) false hb h1 h2 (Nat.le_refl _) (Nat.le_refl _)
      unfold Instr.sliceAt Gives
      simp only [Sem.run_bind, run_underlying hu, Result.andThen_ok, h3, hs, Instr.sureAddr, Sem.run_pure]
      cases hcl : Nat.beq m l <;> rw [hcl] at h
      · have hne : m ≠ l := Nat.ne_of_beq_eq_false hcl
        injection h with h; subst h
        refine ⟨.slice (some ⟨g, o + l * s, none⟩) (hh - l) (m - l), by simp [hne, addr_add], ?_⟩
        rw [Rep]
        exact ⟨g, k, hg, rfl, by simp only [Cap.under]; omega⟩
      · have he := Nat.eq_of_beq_eq_true hcl
        subst he
        injection h with h; subst h
        refine ⟨.slice (some ⟨g, o, none⟩) (hh - m) 0, by simp, ?_⟩
        rw [Rep]
        exact ⟨g, k, hg, rfl, by simp only [Cap.under]; omega⟩
    · cases h
  · cases h

end Go.Proofs.YtajmkdbokdjmeaaGreat
/- An evaluator: structs and arrays built. Kit only. -/
namespace Go.Proofs.YtajmkdbokdjmeaaGreat
open Go.RowKit
theorem fold_fill (off : Nat) : ∀ (l : List Value) (s : Nat) (C : Array Value), off + s + l.length ≤ C.size →
    ((l.zipIdx s).foldl (fun cs (p : Value × Nat) => cs.setIfInBounds (off + p.2) p.1) C).toList = C.toList.take (off + s) ++ l ++ C.toList.drop (off + s + l.length)
  | [], s, C, _ => by simp
  | a :: l, s, C, h => by
    rw [List.zipIdx_cons, List.foldl_cons, fold_fill off l (s + 1) _ (by simp at h ⊢; omega)]
    simp only [Array.toList_setIfInBounds, List.length_cons] at h ⊢
    have hlt : off + s < C.toList.length := by simp; omega
    rw [show off + (s + 1) = off + s + 1 by omega, List.take_add_one, List.take_set_of_le (Nat.le_refl _), List.drop_set_of_lt (by omega)]
    simp only [List.getElem?_set_self hlt, Option.toList, List.append_assoc, List.singleton_append]
    rw [show off + s + 1 + l.length = off + s + (l.length + 1) by omega]
noncomputable def aFill (place : Nat → Option (Nat × Nat)) (ps : List (Nat × AV)) : List AV → Option (List AV) :=
  List.rec (motive := fun _ => List AV → Option (List AV)) (fun cs => some cs)
    (fun p _ ih cs =>
      match place p.1 with
      | none => none
      | some (off, size) => cond (Nat.beq p.2.cells.length size) (cond (Nat.ble (off + size) cs.length) (ih (cs.take off ++ p.2.cells ++ cs.drop (off + size))) none) none) ps
def RepP (ρ : Env) : List (Nat × AV) → List (Nat × Value) → Prop
  | [], L => L = []
  | p :: l, L => ∃ V M, Rep ρ p.2 V ∧ RepP ρ l M ∧ L = (p.1, V) :: M
theorem aFill_ok {ρ : Env} {place : Nat → Option (Nat × Nat)} : ∀ (ps : List (Nat × AV)) (PS : List (Nat × Value)) (cs r : List AV) (C : Array Value), aFill place ps cs = some r → RepP ρ ps PS → RepL ρ cs C.toList → ∃ R, Instr.fill place C PS = some R ∧ RepL ρ r R.toList
  | [], PS, cs, r, C, h, hp, hc => by
    have h' : some cs = some r := h
    injection h' with h'
    subst h'
    simp only [RepP] at hp
    subst hp
    exact ⟨C, rfl, hc⟩
  | (i, v) :: ps, PS, cs, r, C, h, hp, hc => by
    have h' : (match place i with
      | none => none
      | some (off, size) => cond (Nat.beq v.cells.length size) (cond (Nat.ble (off + size) cs.length) (aFill place ps (cs.take off ++ v.cells ++ cs.drop (off + size))) none) none) = some r := h
    obtain ⟨V, M, hv, hm, rfl⟩ := hp
    have hvc := hv.cells
    have hvl : V.cells.size = v.cells.length := by rw [← hvc.length, Array.length_toList]
    have hcl : C.size = cs.length := by rw [← hc.length, Array.length_toList]
    unfold Instr.fill
    split at h'
    · cases h'
    · rename_i off size hpl
      simp only [hpl]
      cases hb : Nat.beq v.cells.length size <;> rw [hb] at h'
      · cases h'
      simp only [cond_true] at h'
      cases hb2 : Nat.ble (off + size) cs.length <;> rw [hb2] at h'
      · cases h'
      simp only [cond_true] at h'
      have h1 := Nat.eq_of_beq_eq_true hb
      have h2 := Nat.le_of_ble_eq_true hb2
      have hcond : (decide (V.cells.size ≠ size) || decide (off + V.cells.size > C.size)) = false := by
        simp only [Bool.or_eq_false_iff, decide_eq_false_iff_not]
        exact ⟨by simp; omega, by omega⟩
      have hf := fold_fill off V.cells.toList 0 C (by simp only [Array.length_toList]; omega)
      simp only [Nat.add_zero, Array.length_toList] at hf
      obtain ⟨R, h3, h4⟩ := aFill_ok ps M _ r (V.cells.zipIdx.foldl (fun cs (p : Value × Nat) => cs.setIfInBounds (off + p.2) p.1) C) h' hm (by
        rw [← Array.foldl_toList, Array.toList_zipIdx, hf, ← h1, hvl]
        exact ((hc.take off).app _ _ _ _ hvc).app _ _ _ _ (hc.drop _))
      refine ⟨R, ?_, h4⟩
      simp only [hcond, Bool.false_eq_true, if_false]
      exact h3
noncomputable def placesOf (P : Program) (l : List Field) : Option (List (Nat × Nat)) :=
  List.rec (motive := fun _ => Option (List (Nat × Nat))) (some []) (fun f _ ih => match aggSz P f.type with | some (_, n) => ih.map fun r => (f.offset, n) :: r | none => none) l
theorem placesOf_run {P : Program} {W : World} : ∀ (l : List Field) (r : List (Nat × Nat)), placesOf P l = some r → ((l.mapM fun f => do pure (f.offset, ← sizeOf f.type)) : Sem (List (Nat × Nat))).run P W = .ok r W
  | [], r, h => by
    have h' : some [] = some r := h
    injection h' with h'
    subst h'
    simp
  | f :: l, r, h => by
    have h' : (match aggSz P f.type with | some (_, n) => (placesOf P l).map fun r => (f.offset, n) :: r | none => none) = some r := h
    split at h'
    · rename_i z n ha
      obtain ⟨_, hs⟩ := aggSz_run ha W
      cases hp : placesOf P l with
      | none => rw [hp] at h'; cases h'
      | some q =>
        rw [hp] at h'
        injection h' with h'
        subst h'
        rw [List.mapM_cons]
        simp only [Sem.run_bind, hs, Result.andThen_ok, Sem.run_pure, placesOf_run l q hp]
    · cases h'
noncomputable def zeroOf (P : Program) (t : TypeId) : Option (List AV) :=
  match P.info? t with
  | some i => match i.zero with
    | some z => ofList z.cells.toList
    | none => none
  | none => none
theorem zeroOf_run {P : Program} {t : TypeId} {l : List AV} (h : zeroOf P t = some l) (W : World) : ∃ z, (zeroValue t).run P W = .ok z W ∧ ∀ ρ, RepL ρ l z.cells.toList := by
  unfold zeroOf at h
  split at h
  · rename_i i hi
    split at h
    · rename_i z hz
      exact ⟨z, by simp [zeroValue, typeInfo, hi, hz], fun ρ => ofList_rep _ _ h⟩
    · cases h
  · cases h
noncomputable def evBuild (P : Program) (t : TypeId) (ps : List (Nat × AV)) : Option AV :=
  match P.underlying t with
  | some (.struct fs) =>
    match zeroOf P t, placesOf P fs.toList with
    | some z, some pl => (aFill (fun i : Nat => pl[i]?) ps z).map .agg
    | _, _ => none
  | some (.array _ e) =>
    match zeroOf P t, aggSz P e with
    | some z, some (_, s) => (aFill (fun i => some (i * s, s)) ps z).map .agg
    | _, _ => none
  | _ => none
theorem evBuild_ok {P : Program} {W : World} {ρ : Env} {t : TypeId} {ps : List (Nat × AV)} {PS : Array (Nat × Value)} {r : AV} (h : evBuild P t ps = some r) (hp : RepP ρ ps PS.toList) : Gives P (Instr.build t PS) W ρ r := by
  unfold evBuild at h
  split at h
  · rename_i fs hu
    split at h
    · rename_i z pl hz hpl
      obtain ⟨Z, hZ, hZr⟩ := zeroOf_run hz W
      cases hf : aFill (fun i : Nat => pl[i]?) ps z with
      | none => rw [hf] at h; cases h
      | some l =>
        rw [hf] at h
        injection h with h; subst h
        obtain ⟨R, h1, h2⟩ := aFill_ok ps PS.toList z l Z.cells hf hp (hZr ρ)
        refine ⟨.agg R, ?_, by rw [Rep]; exact ⟨R.toList, h2, rfl⟩⟩
        have hm := placesOf_run (W := W) _ _ hpl
        unfold Instr.build
        simp only [Sem.run_bind, hZ, Result.andThen_ok, run_underlying hu]
        rw [Array.mapM_eq_mapM_toList]
        simp only [Sem.run_map, hm, Result.andThen_ok]
        have hpl2 : (fun i : Nat => pl.toArray[i]?) = fun i : Nat => pl[i]? := by funext i; simp
        simp [h1]
    · cases h
  · rename_i n e hu
    split at h
    · rename_i z z0 s hz ha
      obtain ⟨Z, hZ, hZr⟩ := zeroOf_run hz W
      obtain ⟨_, hs⟩ := aggSz_run ha W
      cases hf : aFill (fun i => some (i * s, s)) ps z with
      | none => rw [hf] at h; cases h
      | some l =>
        rw [hf] at h
        injection h with h; subst h
        obtain ⟨R, h1, h2⟩ := aFill_ok ps PS.toList z l Z.cells hf hp (hZr ρ)
        refine ⟨.agg R, ?_, by rw [Rep]; exact ⟨R.toList, h2, rfl⟩⟩
        unfold Instr.build
        simp only [Sem.run_bind, hZ, Result.andThen_ok, run_underlying hu, hs]
        simp [h1]
    · cases h
  · cases h

end Go.Proofs.YtajmkdbokdjmeaaGreat
/- An evaluator: operations on memory. Kit only. -/
namespace Go.Proofs.YtajmkdbokdjmeaaGreat
open Go.RowKit
inductive RV where
  | fail
  | ok (v : AV) (m : Mem)
/-- What an operation does, whatever the order drawn ahead of it. -/
def Does (c : Ctx) (ρ : Env) (m : Mem) (W : World) (o : Oper) (a : Act) (v : AV) (m' : Mem) : Prop :=
  ∀ (K : Act → World → Prop) (Q : Exit → Act → World → Prop), (∀ V W' ρ', Rep ρ' v V → Stp c ρ m W ρ' m' W' → K (a.put o.dst V) W') → Oper.wp c.P o a W K Q
theorem Does.value {c : Ctx} {ρ ρ' : Env} {m m' : Mem} {W W' : World} {o : Oper} {a : Act} {v : AV} {V : Value} (hr : (execOp a.eval o).run c.P W = .ok (.value V) W') (hv : Rep ρ' v V) (hs : Stp c ρ m W ρ' m' W') : Does c ρ m W o a v m' := by
  intro K Q h
  unfold Oper.wp
  rw [hr]
  exact h V W' ρ' hv hs
theorem Does.skip {c : Ctx} {ρ ρ' : Env} {m m' : Mem} {W W' : World} {o : Oper} {a : Act} (hr : (execOp a.eval o).run c.P W = .ok .skip W') (hs : Stp c ρ m W ρ' m' W') : Does c ρ m W o a (.tup []) m' := by
  intro K Q h
  unfold Oper.wp
  rw [hr]
  exact h undef W' ρ' (by rw [Rep]; exact ⟨[], by rw [RepL], rfl⟩) hs
noncomputable def newRowM (m : Mem) (cells : List AV) (e : TypeId) (sz : Nat) : Mem := ⟨m.h.set m.cnt (.row (treeOf cells 0 .e) (Nat.succ (Nat.succ e)) sz), m.cnt + 1⟩
theorem treeOf_rep {ρ : Env} {l : List AV} {L : List Value} (h : RepL ρ l L) : ∀ j v, (treeOf l 0 .e).get j = some v → ∃ V, L.toArray[j]? = some V ∧ Rep ρ v V := by
  intro j v hj
  rcases treeOf_get l 0 _ j v hj with ⟨_, h2, h3⟩ | ⟨_, h2⟩
  · simpa using h.get _ _ j v h3
  · rw [Tr.get_e] at h2; cases h2
/-- A new row of k elements. -/
theorem newRow_ok {c : Ctx} {ρ : Env} {m : Mem} {W : World} (h : HRep c ρ m W) (hb : c.bar ≤ m.cnt) (hf : ρ m.cnt = none) {l : List AV} {C : Array Value} {e sz k : Nat} (hk : k ≤ maxLen) (hs : C.size = k * sz) (hl : RepL ρ l C.toList) :
    ∃ ρ' : Env, ρ' m.cnt = some (W.heap.size, k) ∧ Stp c ρ m W ρ' (newRowM m l e sz) (W.alloc (.cells C e)) := by
  refine Stp.alloc h hb hf hk hs (fun j v hj => ?_)
  simpa using treeOf_rep hl j v hj
noncomputable def evAlloc (P : Program) (e : TypeId) (m : Mem) : RV :=
  match zeroOf P e with
  | some l => .ok (.ptr m.cnt 0) (newRowM m l e l.length)
  | none => .fail
theorem alloc_run {P : Program} {W : World} {e : TypeId} {z : Value} (h : (zeroValue e).run P W = .ok z W) : (Instr.alloc e true (.tuple #[])).run P W = .ok (.pointer (some ⟨W.heap.size, 0, none⟩)) (W.alloc (.cells z.cells e)) := by
  unfold Instr.alloc
  simp only [Sem.run_bind, h, Result.andThen_ok]
  simp [newVar, newRow]
theorem evAlloc_ok {c : Ctx} {ρ : Env} {m m' : Mem} {W : World} {e : TypeId} {v : AV} (h : evAlloc c.P e m = .ok v m') (hr : HRep c ρ m W) (hb : c.bar ≤ m.cnt) (hf : ρ m.cnt = none) :
    ∃ V W' ρ', (Instr.alloc e true (.tuple #[])).run c.P W = .ok V W' ∧ Rep ρ' v V ∧ Stp c ρ m W ρ' m' W' := by
  unfold evAlloc at h
  split at h
  · rename_i l hz
    obtain ⟨z, h1, h2⟩ := zeroOf_run hz W
    injection h with h3 h4
    subst h3; subst h4
    have hlen : z.cells.size = l.length := by rw [← (h2 ρ).length, Array.length_toList]
    obtain ⟨ρ', h5, h6⟩ := newRow_ok (k := 1) (sz := l.length) (e := e) hr hb hf (by simp [maxLen]) (by omega) (h2 ρ)
    exact ⟨_, _, ρ', alloc_run h1, by rw [Rep]; exact ⟨_, _, h5, rfl⟩, h6⟩
  · cases h
noncomputable def evBox (e : TypeId) (x : AV) (m : Mem) : RV := .ok (.ptr m.cnt 0) (newRowM m x.cells e x.cells.length)
theorem evBox_ok {c : Ctx} {ρ : Env} {m m' : Mem} {W : World} {e : TypeId} {x v : AV} {X : Value} (h : evBox e x m = .ok v m') (hx : Rep ρ x X) (hr : HRep c ρ m W) (hb : c.bar ≤ m.cnt) (hf : ρ m.cnt = none) :
    ∃ V W' ρ', (Instr.box e X).run c.P W = .ok V W' ∧ Rep ρ' v V ∧ Stp c ρ m W ρ' m' W' := by
  unfold evBox at h
  injection h with h3 h4
  subst h3; subst h4
  have hlen : X.cells.size = x.cells.length := by rw [← hx.cells.length, Array.length_toList]
  obtain ⟨ρ', h5, h6⟩ := newRow_ok (k := 1) (sz := x.cells.length) (e := e) hr hb hf (by simp [maxLen]) (by omega) hx.cells
  exact ⟨.pointer (some ⟨W.heap.size, 0, none⟩), _, ρ', by simp [Instr.box, newVar, newRow], by rw [Rep]; exact ⟨_, _, h5, rfl⟩, h6⟩
theorem fold_size (off : Nat) : ∀ (q : List (Value × Nat)) (C : Array Value), (q.foldl (fun cs (p : Value × Nat) => cs.setIfInBounds (off + p.2) p.1) C).size = C.size
  | [], _ => rfl
  | _ :: q, C => by
    rw [List.foldl_cons, fold_size off q]
    simp
theorem fill_size (place : Nat → Option (Nat × Nat)) : ∀ (PS : List (Nat × Value)) (C R : Array Value), Instr.fill place C PS = some R → R.size = C.size
  | [], C, R, h => by
    unfold Instr.fill at h
    injection h with h
    rw [h]
  | (i, V) :: PS, C, R, h => by
    unfold Instr.fill at h
    split at h
    · cases h
    · split at h
      · cases h
      · rw [fill_size place PS _ R h]
        rw [← Array.foldl_toList]
        exact fold_size _ _ _
theorem RepL.map {ρ : Env} {f : Nat → AV} {F : Nat → Value} : ∀ l : List Nat, (∀ i ∈ l, Rep ρ (f i) (F i)) → RepL ρ (l.map f) (l.map F)
  | [], _ => by simp [RepL]
  | i :: l, h => by
    rw [List.map_cons, List.map_cons, RepL]
    exact ⟨_, _, h i (by simp), RepL.map l (fun j hj => h j (by simp [hj])), rfl⟩
noncomputable def evBuildSlice (P : Program) (t : TypeId) (len : Nat) (ps : List (Nat × AV)) (m : Mem) : RV :=
  match P.underlying t with
  | some (.slice e) =>
    match aggSz P e, zeroOf P e with
    | some (_, s), some z =>
      cond (Nat.ble (len * s) 16777216) (cond (Nat.ble len 16777216) (cond (Nat.beq z.length s)
        (match aFill (fun i => some (i * s, s)) ps ((List.range (len * s)).map fun i => z.getD (i % s) .nilp) with
        | some l => .ok (.slice m.cnt 0 len (.known len)) (newRowM m l e s)
        | none => .fail) .fail) .fail) .fail
    | _, _ => .fail
  | _ => .fail
theorem evBuildSlice_ok {c : Ctx} {ρ : Env} {m m' : Mem} {W : World} {t : TypeId} {len : Nat} {ps : List (Nat × AV)} {PS : Array (Nat × Value)} {v : AV} (h : evBuildSlice c.P t len ps m = .ok v m') (hp : RepP ρ ps PS.toList) (hr : HRep c ρ m W) (hb : c.bar ≤ m.cnt) (hf : ρ m.cnt = none) :
    ∃ V W' ρ', (Instr.buildSlice t len PS).run c.P W = .ok V W' ∧ Rep ρ' v V ∧ Stp c ρ m W ρ' m' W' := by
  unfold evBuildSlice at h
  split at h
  · rename_i e hu
    split at h
    · rename_i z0 s z ha hz
      cases hb1 : Nat.ble (len * s) 16777216 <;> rw [hb1] at h
      · cases h
      cases hb2 : Nat.ble len 16777216 <;> rw [hb2] at h
      · cases h
      cases hb3 : Nat.beq z.length s <;> rw [hb3] at h
      · cases h
      simp only [cond_true] at h
      have h1 := Nat.le_of_ble_eq_true hb1
      have h2 := Nat.le_of_ble_eq_true hb2
      have h3 := Nat.eq_of_beq_eq_true hb3
      obtain ⟨_, hs⟩ := aggSz_run ha W
      obtain ⟨Z, hZ, hZr⟩ := zeroOf_run hz W
      have hZl : Z.cells.size = s := by rw [← h3, ← (hZr ρ).length, Array.length_toList]
      split at h
      · rename_i l hfl
        injection h with h4 h5
        subst h4; subst h5
        have key : ∀ Zc : Array Value, (len * s ≠ 0 → Zc = Z.cells) → ∃ R, Instr.fill (fun i => some (i * s, s)) ((Array.range (len * s)).map (Zc[· % Zc.size]!)) PS.toList = some R ∧ RepL ρ l R.toList := by
          intro Zc hZc
          refine aFill_ok ps PS.toList _ l _ hfl hp ?_
          rw [Array.toList_map, Array.toList_range]
          refine RepL.map _ (fun i hi => ?_)
          have hi' : i < len * s := by simpa using hi
          have hne : len * s ≠ 0 := by omega
          rw [hZc hne, hZl]
          have hs0 : 0 < s := Nat.pos_of_ne_zero (fun e => hne (by rw [e, Nat.mul_zero]))
          have hlt : i % s < z.length := by rw [h3]; exact Nat.mod_lt _ hs0
          obtain ⟨V, h6, h7⟩ := (hZr ρ).get _ _ (i % s) z[i % s] (List.getElem?_eq_getElem hlt)
          rw [List.getD_eq_getElem?_getD, List.getElem?_eq_getElem hlt, Option.getD_some]
          rw [Array.getElem?_toList] at h6
          rw [Array.getElem!_eq_getD, Array.getD_eq_getD_getElem?, h6]
          exact h7
        have hnb : ¬ (len * s > 2 ^ 24) := by omega
        have fin : ∀ R : Array Value, RepL ρ l R.toList → R.size = len * s → ∃ V W' ρ', ((do pure (.slice (some (← newRow e R)) len len)) : Sem Value).run c.P W = .ok V W' ∧ Rep ρ' (.slice m.cnt 0 len (.known len)) V ∧ Stp c ρ m W ρ' (newRowM m l e s) W' := by
          intro R hR hRs
          obtain ⟨ρ', h5, h6⟩ := newRow_ok (k := len) (sz := s) (e := e) hr hb hf (by simp only [maxLen]; omega) hRs hR
          exact ⟨.slice (some ⟨W.heap.size, 0, none⟩) len len, _, ρ', by simp [newRow], by rw [Rep]; exact ⟨_, _, h5, rfl, Nat.le_refl _⟩, h6⟩
        have szs : ∀ (Zc : Array Value) (R : Array Value), Instr.fill (fun i => some (i * s, s)) ((Array.range (len * s)).map (Zc[· % Zc.size]!)) PS.toList = some R → R.size = len * s := by
          intro Zc R hR
          have := fill_size _ _ _ _ hR
          simpa using this
        by_cases hz0 : len * s = 0
        · obtain ⟨R, h6, h7⟩ := key #[] (fun h => absurd hz0 h)
          obtain ⟨V, W', ρ', h8, h9⟩ := fin R h7 (szs _ _ h6)
          refine ⟨V, W', ρ', ?_, h9⟩
          unfold Instr.buildSlice
          have h00 : ¬ ((0 : Nat) > 2 ^ 24) := by omega
          rw [hz0] at h6
          simp only [Sem.run_bind, run_underlying hu, Result.andThen_ok, hs, hz0, h00, if_false, if_true, Sem.run_pure, h6]
          exact h8
        · obtain ⟨R, h6, h7⟩ := key Z.cells (fun _ => rfl)
          obtain ⟨V, W', ρ', h8, h9⟩ := fin R h7 (szs _ _ h6)
          refine ⟨V, W', ρ', ?_, h9⟩
          unfold Instr.buildSlice
          simp only [Sem.run_bind, run_underlying hu, Result.andThen_ok, hs, hnb, if_false, hz0, Sem.run_pure, hZ, h6]
          exact h8
      · cases h
    · cases h
  · cases h

end Go.Proofs.YtajmkdbokdjmeaaGreat
/- An evaluator: loads, stores. Kit only. -/
namespace Go.Proofs.YtajmkdbokdjmeaaGreat
open Go.RowKit
noncomputable def cellsAt (t : Tr AV) (n : Nat) : Nat → Option (List AV) :=
  Nat.rec (motive := fun _ => Nat → Option (List AV)) (fun _ => some [])
    (fun _ ih o => match t.get o with
      | some v => match ih (Nat.succ o) with
        | some l => some (v :: l)
        | none => none
      | none => none) n
theorem cellsAt_ok {t : Tr AV} : ∀ (n o : Nat) (l : List AV), cellsAt t n o = some l → l.length = n ∧ ∀ j v, l[j]? = some v → t.get (o + j) = some v
  | 0, o, l, h => by
    have h' : some [] = some l := h
    injection h' with h'
    subst h'
    exact ⟨rfl, fun j v hj => by simp at hj⟩
  | n + 1, o, l, h => by
    have h' : (match t.get o with
      | some v => match cellsAt t n (o + 1) with
        | some l => some (v :: l)
        | none => none
      | none => none) = some l := h
    split at h'
    · rename_i v hv
      split at h'
      · rename_i m hm
        injection h' with h'
        subst h'
        obtain ⟨h1, h2⟩ := cellsAt_ok n (o + 1) m hm
        refine ⟨by simp [h1], fun j u hj => ?_⟩
        cases j with
        | zero =>
          have : v = u := by simpa using hj
          subst this
          exact hv
        | succ j => rw [show o + (j + 1) = o + 1 + j by omega]; exact h2 j u (by simpa using hj)
      · cases h'
    · cases h'
/-- The row that a pointer leads to. -/
noncomputable def rowIn (c : Ctx) (m : Mem) (b : Nat) : Option (Tr AV × Nat × Nat) :=
  cond (seenIn c.hid b) (match m.h.get b with | some (.row t (.succ (.succ e)) sz) => some (t, e, sz) | _ => none) none
theorem rowIn_ok {c : Ctx} {m : Mem} {b : Nat} {t : Tr AV} {e sz : Nat} (h : rowIn c m b = some (t, e, sz)) : Live c m b t (e + 2) sz := by
  unfold rowIn at h
  cases hs : seenIn c.hid b <;> rw [hs] at h
  · cases h
  · simp only [cond_true] at h
    split at h
    · rename_i t' e' sz' hg
      injection h with h
      injection h with h1 h
      injection h with h2 h3
      subst h1; subst h2; subst h3
      exact ⟨hs, hg⟩
    · cases h
/-- The row that a pointer reads. -/
noncomputable def rowRd (c : Ctx) (m : Mem) (b : Nat) : Option (Tr AV) :=
  cond (seenIn c.hid b) (match m.h.get b with | some (.row t (.succ _) _) => some t | _ => none) none
theorem rowRd_ok {c : Ctx} {m : Mem} {b : Nat} {t : Tr AV} (h : rowRd c m b = some t) : ∃ e sz, Live c m b t (e + 1) sz := by
  unfold rowRd at h
  cases hs : seenIn c.hid b <;> rw [hs] at h
  · cases h
  · simp only [cond_true] at h
    split at h
    · rename_i t' e' sz' hg
      injection h with h
      subst h
      exact ⟨e', sz', hs, hg⟩
    · cases h
theorem row_list {ρ : Env} {W : World} {g k : Nat} {t : Tr AV} {e : TypeId} {sz : Nat} (hr : RowRep ρ W g k t (e + 1) sz) : ∀ (l : List AV) (o : Nat), (∀ j v, l[j]? = some v → t.get (o + j) = some v) → ∃ L, RepL ρ l L ∧ ∀ j V, L[j]? = some V → W.cell? ⟨g, o + j, none⟩ = some V
  | [], o, _ => ⟨[], by rw [RepL], fun j V hj => by simp at hj⟩
  | v :: l, o, h => by
    obtain ⟨V, h1, h2⟩ := hr.read (h 0 v rfl)
    obtain ⟨L, h3, h4⟩ := row_list hr l (o + 1) (fun j u hj => by rw [show o + 1 + j = o + (j + 1) by omega]; exact h (j + 1) u (by simpa using hj))
    refine ⟨V :: L, by rw [RepL]; exact ⟨V, L, h2, h3, rfl⟩, fun j U hj => ?_⟩
    cases j with
    | zero =>
      have : V = U := by simpa using hj
      subst this
      exact h1
    | succ j => rw [show o + (j + 1) = o + 1 + j by omega]; exact h4 j U (by simpa using hj)
noncomputable def evLoad (c : Ctx) (t : TypeId) (x : AV) (m : Mem) : Option AV :=
  match x with
  | .ptr b o =>
    match rowRd c m b with
    | some tr =>
      match aggSz c.P t with
      | some (true, n) => (cellsAt tr n o).map .agg
      | some (false, _) => tr.get o
      | none => none
    | none => none
  | _ => none
theorem evLoad_ok {c : Ctx} {ρ : Env} {m : Mem} {W : World} {t : TypeId} {x v : AV} {X : Value} (h : evLoad c t x m = some v) (hx : Rep ρ x X) (hr : HRep c ρ m W) : Gives c.P (Instr.loadAt t X) W ρ v := by
  unfold evLoad at h
  split at h
  · rename_i b o
    rw [Rep] at hx
    obtain ⟨g, k, hg, rfl⟩ := hx
    split at h
    · rename_i tr hrow
      obtain ⟨e, sz, hl⟩ := rowRd_ok hrow
      obtain ⟨g', k', h1, h2⟩ := hr.row _ _ _ _ hl
      rw [hg] at h1
      injection h1 with h1
      injection h1 with h1 h3
      subst h1; subst h3
      split at h
      · rename_i n ha
        obtain ⟨h3, h4⟩ := aggSz_run ha W
        cases hc : cellsAt tr n o with
        | none => rw [hc] at h; cases h
        | some l =>
          rw [hc] at h
          injection h with h; subst h
          obtain ⟨h5, h6⟩ := cellsAt_ok _ _ _ hc
          obtain ⟨L, h7, h8⟩ := row_list h2 l o h6
          refine ⟨.agg L.toArray, ?_, by rw [Rep]; exact ⟨L, h7, rfl⟩⟩
          have h9 := run_loadCells_list (P := c.P) (w := W) ⟨g, o, none⟩ L (fun j V hj => by rw [addr_add]; exact h8 j V hj)
          rw [h7.length, h5] at h9
          unfold Instr.loadAt loadVar
          simp [Instr.sureAddr, h3, h4, h9]
      · rename_i n ha
        obtain ⟨h3, h4⟩ := aggSz_run ha W
        obtain ⟨V, h5, h6⟩ := h2.read h
        refine ⟨V, ?_, h6⟩
        unfold Instr.loadAt loadVar
        simp [Instr.sureAddr, h3, h5]
      · cases h
    · cases h
  · cases h
noncomputable def storeL (l : List AV) : Nat → Tr AV → Option (Tr AV) :=
  List.rec (motive := fun _ => Nat → Tr AV → Option (Tr AV)) (fun _ t => some t)
    (fun v _ ih o t => match t.get o with
      | some _ => cond v.one (ih (Nat.succ o) (t.set o v)) none
      | none => none) l
theorem storeL_ok {P : Program} {ρ : Env} {g k : Nat} {e : TypeId} {sz : Nat} : ∀ (l : List AV) (L : List Value) (i o : Nat) (t t' : Tr AV) (W : World), storeL l (o + i) t = some t' → RepL ρ l L → RowRep ρ W g k t (e + 2) sz →
    ∃ W', (storeCells ⟨g, o, none⟩ L i).run P W = .ok () W' ∧ RowRep ρ W' g k t' (e + 2) sz ∧ (∀ q, q ≠ g → W'.heap[q]? = W.heap[q]?) ∧ W'.os = W.os ∧ W'.tape = W.tape ∧ W'.output = W.output ∧ W'.heap.size = W.heap.size
  | [], L, i, o, t, t', W, h, hl, hr => by
    have h' : some t = some t' := h
    injection h' with h'
    subst h'
    rw [RepL] at hl
    subst hl
    exact ⟨W, by unfold storeCells; simp, hr, fun _ _ => rfl, rfl, rfl, rfl, rfl⟩
  | v :: l, L, i, o, t, t', W, h, hl, hr => by
    have h' : (match t.get (o + i) with
      | some _ => cond v.one (storeL l (o + i + 1) (t.set (o + i) v)) none
      | none => none) = some t' := h
    rw [RepL] at hl
    obtain ⟨V, M, hv, hm, rfl⟩ := hl
    split at h'
    · rename_i v0 hv0
      cases ho : v.one <;> rw [ho] at h'
      · cases h'
      simp only [cond_true] at h'
      obtain ⟨U, h1, h2, _⟩ := hr.cell hv0
      have h3 := hr.set hv0 hv
      obtain ⟨W', g1, g2, g3, g4, g5, g6, g7⟩ := storeL_ok (P := P) l M (i + 1) o _ t' _ (by rw [← Nat.add_assoc]; exact h') hm h3
      refine ⟨W', ?_, g2, fun q hq => (g3 q hq).trans (by simp [World.setCell, Array.getElem?_modify, Ne.symm hq]), g4, g5, g6, by rw [g7]; simp [World.setCell]⟩
      unfold storeCells
      rw [Sem.run_bind, run_store P W _ V .plain (hv.one ho), addr_add]
      simp [h1, h2, g1]
    · cases h'
noncomputable def evStore (c : Ctx) (t : TypeId) (x v : AV) (m : Mem) : RV :=
  match x with
  | .ptr b o =>
    match rowIn c m b, aggSz c.P t with
    | some (tr, e, sz), some (_, n) =>
      cond (Nat.ble c.bar b) (cond (Nat.beq v.cells.length n) (match storeL v.cells o tr with
        | some tr' => .ok (.tup []) ⟨m.h.set b (.row tr' (Nat.succ (Nat.succ e)) sz), m.cnt⟩
        | none => .fail) .fail) .fail
    | _, _ => .fail
  | _ => .fail
theorem evStore_ok {c : Ctx} {ρ : Env} {m m' : Mem} {W : World} {t : TypeId} {x v r : AV} {X V : Value} (h : evStore c t x v m = .ok r m') (hx : Rep ρ x X) (hv : Rep ρ v V) (hr : HRep c ρ m W) :
    r = .tup [] ∧ ∃ W', (Instr.storeAt t X V).run c.P W = .ok () W' ∧ Stp c ρ m W ρ m' W' := by
  unfold evStore at h
  split at h
  · rename_i b o
    rw [Rep] at hx
    obtain ⟨g, k, hg, rfl⟩ := hx
    split at h
    · rename_i tr e sz z n hrow ha
      cases hb : Nat.ble c.bar b <;> rw [hb] at h
      · cases h
      cases hn : Nat.beq v.cells.length n <;> rw [hn] at h
      · cases h
      simp only [cond_true] at h
      split at h
      · rename_i tr' hs
        injection h with h1 h2
        subst h1; subst h2
        have hl := rowIn_ok hrow
        obtain ⟨g', k', h1, h2⟩ := hr.row _ _ _ _ hl
        rw [hg] at h1
        injection h1 with h1
        injection h1 with h1 h3
        subst h1; subst h3
        obtain ⟨_, h4⟩ := aggSz_run ha W
        have hlen : V.cells.size = n := by rw [← Nat.eq_of_beq_eq_true hn, ← hv.cells.length, Array.length_toList]
        obtain ⟨W', g1, g2, g3, g4, g5, g6, g7⟩ := storeL_ok (P := c.P) v.cells V.cells.toList 0 o tr tr' W (by simpa using hs) hv.cells h2
        refine ⟨rfl, W', ?_, Stp.put hr (Nat.le_of_ble_eq_true hb) hl hg g3 g4 g5 g6 g7 g2⟩
        unfold Instr.storeAt storeVar
        simp [Instr.sureAddr, h4, hlen, g1]
      · cases h
    · cases h
  · cases h

end Go.Proofs.YtajmkdbokdjmeaaGreat
