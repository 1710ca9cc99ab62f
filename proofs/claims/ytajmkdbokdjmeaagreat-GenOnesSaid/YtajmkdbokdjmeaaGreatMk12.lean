/- Merged: O10, Om, O11. -/
import Derived.Test.YtajmkdbokdjmeaaGreatMk11
/- An evaluator: append. Kit only. -/
namespace Go.Proofs.YtajmkdbokdjmeaaGreat
open Go.RowKit
/-- A row gives way to another one, in its block or in a new one. -/
theorem Stp.swap {c : Ctx} {ρ : Env} {m : Mem} {W W' : World} (h : HRep c ρ m W) (hbc : c.bar ≤ m.cnt) (hf : ρ m.cnt = none) {b : Nat} (hb : c.bar ≤ b) {t : Tr AV} {e : TypeId} {sz : Nat} (hl : Live c m b t e sz) {g k : Nat} (hg : ρ b = some (g, k))
    (hgr : W.grownBy W' (some g)) {g' k' : Nat} (hg' : g' = g ∨ g' = W.heap.size) {t' : Tr AV} {e' : TypeId} {sz' : Nat} (hrow : RowRep ρ W' g' k' t' e' sz') :
    ∃ ρ' : Env, ρ' m.cnt = some (g', k') ∧ Stp c ρ m W ρ' ⟨(m.h.set b .dead).set m.cnt (.row t' e' sz'), m.cnt + 1⟩ W' := by
  have hle : ρ.le (fun x => if x = m.cnt then some (g', k') else ρ x) := fun x y hx => by
    have : x ≠ m.cnt := fun e => by rw [e, hf] at hx; cases hx
    simp [this, hx]
  have hbn : b ≠ m.cnt := fun e => by rw [e, hf] at hg; cases hg
  have hlive : ∀ x t2 e2 sz2, Live c ⟨(m.h.set b .dead).set m.cnt (.row t' e' sz'), m.cnt + 1⟩ x t2 e2 sz2 → (x = m.cnt ∧ t2 = t' ∧ e2 = e' ∧ sz2 = sz') ∨ (x ≠ m.cnt ∧ x ≠ b ∧ Live c m x t2 e2 sz2) := by
    intro x t2 e2 sz2 hx
    rcases (m.h.set b .dead).get_set _ _ _ _ hx.2 with ⟨h1, h2⟩ | ⟨h1, h2⟩
    · injection h2 with h2 h3 h4
      exact .inl ⟨h1, h2, h3, h4⟩
    · rcases m.h.get_set _ _ _ _ h2 with ⟨_, h3⟩ | ⟨h3, h4⟩
      · cases h3
      · exact .inr ⟨h1, h3, hx.1, h4⟩
  have hnew : ∀ x t2 e2 sz2 q q', Live c m x t2 e2 sz2 → ρ x = some (q, q') → q < W.heap.size := by
    intro x t2 e2 sz2 q q' hx hq
    obtain ⟨a, a', h1, h2⟩ := h.row _ _ _ _ hx
    rw [hq] at h1
    injection h1 with h1
    injection h1 with h1 _
    subst h1
    exact h2.lt
  have hoff : ∀ x t2 e2 sz2 q q', x ≠ b → Live c m x t2 e2 sz2 → ρ x = some (q, q') → q ≠ g := fun x t2 e2 sz2 q q' hxb hx hq e => hxb (h.inj _ _ _ _ _ _ _ _ _ _ _ hx hl (e ▸ hq) hg)
  refine ⟨fun x => if x = m.cnt then some (g', k') else ρ x, by simp, ⟨by simp, fun x hx => ?_, hle, fun x hx => ?_, hgr.os, hgr.tape, hgr.output, hgr.size, fun q hq hn => ?_, ?_, ⟨?_, ?_, ?_⟩, fun hw x y hx => ?_⟩⟩
  · rw [Tr.get_set_ne _ _ _ _ (by omega), Tr.get_set_ne _ _ _ _ (by omega)]
  · have : x ≠ m.cnt := by
      rcases hx with hx | hx
      · omega
      · dsimp only at hx; omega
    simp [this]
  · exact hgr.block q hq (fun e => hn b _ _ _ k hb hl (by rw [Option.some.inj e]; exact hg))
  · intro x t2 e2 sz2 q q' h1 h2 h3 h4
    rcases hlive _ _ _ _ h2 with ⟨rfl, _⟩ | ⟨h5, h6, h7⟩
    · simp only [if_true] at h3
      injection h3 with h3
      injection h3 with h3 _
      rcases hg' with he | he
      · exact ⟨b, t, e, sz, k, hb, hl, by rw [← h3, he]; exact hg⟩
      · omega
    · simp only [h5, if_false] at h3
      exact ⟨x, t2, e2, sz2, q', h1, h7, h3⟩
  · intro x t2 e2 sz2 hx
    rcases hlive _ _ _ _ hx with ⟨rfl, rfl, rfl, rfl⟩ | ⟨h5, h6, h7⟩
    · exact ⟨g', k', by simp, RowRep.same hle rfl hrow⟩
    · obtain ⟨q, q', h1, h2⟩ := h.row _ _ _ _ h7
      exact ⟨q, q', hle _ _ h1, RowRep.same hle (hgr.block q h2.lt (fun e => hoff _ _ _ _ _ _ h6 h7 h1 (Option.some.inj e))) h2⟩
  · intro x t2 e2 sz2 y t3 e3 sz3 q q1 q2 hx hy h1 h2
    rcases hlive _ _ _ _ hx with ⟨rfl, _⟩ | ⟨h5, h6, h7⟩ <;> rcases hlive _ _ _ _ hy with ⟨rfl, _⟩ | ⟨h8, h9, h10⟩
    · rfl
    · simp only [if_true, h8, if_false] at h1 h2
      injection h1 with h1
      injection h1 with h1 _
      have := hnew _ _ _ _ _ _ h10 h2
      have := hoff _ _ _ _ _ _ h9 h10 h2
      omega
    · simp only [if_true, h5, if_false] at h1 h2
      injection h2 with h2
      injection h2 with h2 _
      have := hnew _ _ _ _ _ _ h7 h1
      have := hoff _ _ _ _ _ _ h6 h7 h1
      omega
    · simp only [h5, h8, if_false] at h1 h2
      exact h.inj _ _ _ _ _ _ _ _ _ _ _ h7 h10 h1 h2
  · intro q hq
    obtain ⟨q', h1⟩ := h.glo q hq
    exact ⟨q', hle _ _ h1⟩
  · show x < m.cnt + 1
    rcases (m.h.set b .dead).get_set _ _ _ _ hx with ⟨h1, _⟩ | ⟨_, h2⟩
    · omega
    · rcases m.h.get_set _ _ _ _ h2 with ⟨h3, _⟩ | ⟨_, h4⟩
      · subst h3
        have := hw _ _ hl.2
        omega
      · have := hw _ _ h4
        omega
noncomputable def allOne (l : List AV) : Bool := List.rec (motive := fun _ => Bool) true (fun v _ ih => cond v.one ih false) l
theorem allOne_ok {ρ : Env} : ∀ (l : List AV) (L : List Value), allOne l = true → RepL ρ l L → ∀ u ∈ L, u.oneCell' = true
  | [], L, _, hl => by rw [RepL] at hl; subst hl; intro u hu; cases hu
  | v :: l, L, h, hl => by
    have h' : cond v.one (allOne l) false = true := h
    rw [RepL] at hl
    obtain ⟨V, M, hv, hm, rfl⟩ := hl
    cases ho : v.one <;> rw [ho] at h'
    · cases h'
    intro u hu
    rcases List.mem_cons.1 hu with rfl | hu
    · exact hv.one ho
    · exact allOne_ok l M h' hm u hu
/-- Elements behind a slice's own. -/
noncomputable def appTo (c : Ctx) (e bytes size : Nat) (s : AV) (news : List AV) (k : Nat) (m : Mem) : RV :=
  match s with
  | .nils => .ok (.slice m.cnt 0 k (.own 0)) (newRowM m news e size)
  | .slice b 0 n cp =>
    match rowIn c m b with
    | some (t, e', sz) =>
      match cellsAt t (n * size) 0 with
      | some xs =>
        cond (Nat.ble ((n + k) * bytes) 70368744177664) (cond (Nat.ble (n + k) 1000000000)
          (match cp with
          | .known q => cond (Nat.blt q (n + k)) (.ok (.slice m.cnt 0 (n + k) (.own 0)) (newRowM m (xs ++ news) e size)) .fail
          | .own 0 => cond (Nat.ble c.bar b) (cond (Nat.beq e' e) (cond (Nat.beq sz size) (.ok (.slice m.cnt 0 (n + k) (.own 0)) (newRowM ⟨m.h.set b .dead, m.cnt⟩ (xs ++ news) e size)) .fail) .fail) .fail
          | _ => .fail) .fail) .fail
      | none => .fail
    | none => .fail
  | _ => .fail
noncomputable def evAppend (c : Ctx) (t1 t2 : TypeId) (s x : AV) (m : Mem) : RV :=
  cond (Nat.beq t1 t2)
    (match c.P.underlying t1 with
    | some (.slice e) =>
      match c.P.info? e with
      | some i =>
        match i.zero with
        | some z =>
          cond (Nat.beq z.cells.size i.size) (cond (Nat.blt 0 i.size)
            (match s, x with
            | .nils, .nils => .ok s m
            | .slice _ _ _ _, .nils => .ok s m
            | .nils, .slice _ _ 0 _ => .ok s m
            | .slice _ _ _ _, .slice _ _ 0 _ => .ok s m
            | s, .slice b o (k + 1) _ =>
              match rowIn c m b with
              | some (t, _, _) =>
                match cellsAt t ((k + 1) * i.size) o with
                | some news => cond (allOne news) (cond (Nat.ble ((k + 1) * i.bytes) 70368744177664) (cond (Nat.ble (k + 1) 1000000000) (appTo c e i.bytes i.size s news (k + 1) m) .fail) .fail) .fail
                | none => .fail
              | none => .fail
            | _, _ => .fail) .fail) .fail
        | none => .fail
      | none => .fail
    | _ => .fail) .fail

theorem append_none {P : Program} {W : World} {t e ty : TypeId} (ht : P.underlying t = some (.slice e)) {i : TypeInfo} (hi : P.info? e = some i) (a : Option Addr) (n q : Nat) (hn : n ≤ q) (b : Option Addr) (q2 : Nat) :
    (Builtin.append_ #[t, t] ty #[.slice a n q, .slice b 0 q2]).run P W = .ok (.slice a n q) W := by
  have hf : (Builtin.firstCells i.size 0 (.slice b 0 q2)).run P W = .ok #[] W := by
    cases b with
    | none => simp [Builtin.firstCells]
    | some b => unfold Builtin.firstCells loadCells; rw [Nat.zero_mul]; simp [loadCellsFrom]
  cases a with
  | none => simp [Builtin.append_, run_underlying ht, sizeOf, typeInfo, hi, Builtin.lenOf, hn, hf]
  | some a => simp [Builtin.append_, run_underlying ht, sizeOf, typeInfo, hi, Builtin.lenOf, hn, hf, storeCells]
theorem grown_alloc {c : Ctx} {ρ : Env} {m : Mem} {W : World} (hr : HRep c ρ m W) (hb : c.bar ≤ m.cnt) (hf : ρ m.cnt = none) {l : List AV} {L : List Value} (hl : RepL ρ l L) {n G size : Nat} (hn : L.length = n * size) (hG : n ≤ G) (hm : G ≤ maxLen) {z : Value} (hz : z.cells.size = size) (e : TypeId) :
    ∃ ρ' : Env, ρ' m.cnt = some (W.heap.size, G) ∧ Stp c ρ m W ρ' (newRowM m l e size) (W.drew.alloc (.cells (L.toArray ++ Builtin.zeroCells z.cells (G - n)) e)) := by
  have hq : Stp c ρ m W ρ m W.drew := Stp.quiet hr rfl rfl rfl rfl
  obtain ⟨ρ', h1, h2⟩ := Stp.alloc (W := W.drew) hq.rep hb hf (t := treeOf l 0 .e) (e := e) (sz := size) (k := G) (C := L.toArray ++ Builtin.zeroCells z.cells (G - n)) hm (by
    rw [Array.size_append, size_zeroCells, hz, List.size_toArray, hn, ← Nat.add_mul]
    congr 1
    omega) (fun j v hj => by
      obtain ⟨V, h3, h4⟩ := treeOf_rep hl j v hj
      refine ⟨V, ?_, h4⟩
      rw [Array.getElem?_append_left (Array.getElem?_eq_some_iff.1 h3).1]
      exact h3)
  exact ⟨ρ', h1, hq.trans h2⟩
theorem appTo_ok {c : Ctx} {ρ : Env} {m m' : Mem} {W : World} {t ty e : TypeId} {i : TypeInfo} {z : Value} (ht : c.P.underlying t = some (.slice e)) (hi : c.P.info? e = some i) (hz : i.zero = some z) (hzs : z.cells.size = i.size) (hsz : 0 < i.size)
    {s r : AV} {S : Value} {news : List AV} {NS : List Value} {k q : Nat} {ad : Addr} (hk0 : 0 < k) (h : appTo c e i.bytes i.size s news k m = .ok r m') (hs : Rep ρ s S) (hr : HRep c ρ m W) (hb : c.bar ≤ m.cnt) (hf : ρ m.cnt = none)
    (hnl : news.length = k * i.size) (hnr : RepL ρ news NS) (hone : allOne news = true) (hnews : ∀ j V, NS[j]? = some V → W.cell? (ad.add j) = some V) (hkb : k * i.bytes ≤ 70368744177664) (hk : k ≤ 1000000000) :
    ∃ V W' ρ', (Builtin.append_ #[t, t] ty #[S, .slice (some ad) k q]).run c.P W = .ok V W' ∧ Rep ρ' r V ∧ Stp c ρ m W ρ' m' W' := by
  have hNl : NS.length = k * i.size := by rw [hnr.length, hnl]
  unfold appTo at h
  split at h
  · rw [Rep] at hs
    subst hs
    injection h with h1 h2
    subst h1; subst h2
    have hG := grownCap_ge W k 0 e
    have hM := grownCap_le_maxLen W k 0 e (by simp only [maxLen]; omega)
    obtain ⟨ρ', h3, h4⟩ := grown_alloc hr hb hf hnr hNl hG hM hzs e
    refine ⟨_, _, ρ', run_append_nil W t ty e i z ht hi hz ad k q NS hNl hnews hk0 (by omega) (by omega), ?_, h4⟩
    rw [Rep]
    exact ⟨_, _, h3, rfl, by simp only [Cap.under]; omega⟩
  · rename_i b n cp
    rw [Rep] at hs
    obtain ⟨g, kk, hg, rfl, hle⟩ := hs
    split at h
    · rename_i tr e' sz hrow
      have hl := rowIn_ok hrow
      obtain ⟨g', k', h1, h2⟩ := hr.row _ _ _ _ hl
      rw [hg] at h1
      injection h1 with h1
      injection h1 with h1 h3
      subst h1; subst h3
      split at h
      · rename_i xs hxs
        obtain ⟨hx1, hx2⟩ := cellsAt_ok _ _ _ hxs
        obtain ⟨XS, hX1, hX2⟩ := row_list h2 xs 0 hx2
        have hXl : XS.length = n * i.size := by rw [hX1.length, hx1]
        cases hb1 : Nat.ble ((n + k) * i.bytes) 70368744177664 <;> rw [hb1] at h
        · cases h
        cases hb2 : Nat.ble (n + k) 1000000000 <;> rw [hb2] at h
        · cases h
        simp only [cond_true] at h
        have hb1' := Nat.le_of_ble_eq_true hb1
        have hb2' := Nat.le_of_ble_eq_true hb2
        have hall := hX1.app _ _ _ _ hnr
        have hallL : (XS ++ NS).length = (n + k) * i.size := by rw [List.length_append, hXl, hNl, Nat.add_mul]
        split at h
        · rename_i q0
          cases hq : Nat.blt q0 (n + k) <;> rw [hq] at h
          · cases h
          have hq' : q0 < n + k := Nat.le_of_ble_eq_true hq
          injection h with h4 h5
          subst h4; subst h5
          have hG := grownCap_ge W (n + k) q0 e
          have hM := grownCap_le_maxLen W (n + k) q0 e (by simp only [maxLen]; omega)
          obtain ⟨ρ', h3, h4⟩ := grown_alloc hr hb hf hall hallL hG hM hzs e
          have hrun := run_append_grow (P := c.P) W t ty e i z ht hi hz ⟨g, 0, none⟩ n q0 XS hXl (fun j V hj => by rw [addr_add]; exact hX2 j V hj) ad k q NS hNl hnews hq' (by omega) (growslice_fits hq' (by omega))
          simp only [Cap.under] at hle ⊢
          refine ⟨_, _, ρ', hrun, ?_, by simpa using h4⟩
          rw [Rep]
          exact ⟨_, _, h3, rfl, by simp only [Cap.under]; omega⟩
        · cases hc1 : Nat.ble c.bar b <;> rw [hc1] at h
          · cases h
          cases hc2 : Nat.beq e' e <;> rw [hc2] at h
          · cases h
          cases hc3 : Nat.beq sz i.size <;> rw [hc3] at h
          · cases h
          simp only [cond_true] at h
          have e1 := Nat.eq_of_beq_eq_true hc2
          have e2 := Nat.eq_of_beq_eq_true hc3
          subst e1
          injection h with h4 h5
          subst h4; subst h5
          simp only [Cap.under, Nat.sub_zero] at hle ⊢
          obtain ⟨hkk, C, hC1, hC2, _⟩ := h2
          have hown : W.ownsRow 0 e' i.size (.slice (some ⟨g, 0, none⟩) n kk) n XS := by
            refine ⟨hXl, .inr ⟨g, kk, C, rfl, Nat.zero_le _, hC1, hle, hkk, by rw [hC2, e2], ?_⟩⟩
            apply List.ext_getElem?
            intro j
            rw [List.getElem?_take]
            by_cases hj : j < n * i.size
            · rw [if_pos hj]
              have hjx : j < XS.length := by rw [hXl]; exact hj
              have := hX2 j XS[j] (List.getElem?_eq_getElem hjx)
              rw [Nat.zero_add] at this
              simp only [World.cell?, hC1] at this
              rw [List.getElem?_eq_getElem hjx, Array.getElem?_toList]
              simpa using this
            · rw [if_neg hj, List.getElem?_eq_none (by omega)]
          obtain ⟨V, W', hrun, ho, hgr, _, hbl⟩ := run_append_own_at (P := c.P) W 0 t ty e' i z i.size i.bytes ht hi hz rfl rfl hzs hsz (.slice (some ⟨g, 0, none⟩) n kk) n XS hown ad k q NS hNl hnews (allOne_ok _ _ hone hnr) (by simp only [maxLen]; omega) (by omega) (Nat.zero_le _)
          obtain ⟨ho1, ho2⟩ := ho
          rcases ho2 with ⟨_, hz0⟩ | ⟨g2, cap2, cur2, rfl, _, hh2, hn2, hm2, hs2, ht2⟩
          · omega
          have hg2 : g2 = g ∨ g2 = W.heap.size := by
            simp only [Value.ownBlock, Option.some.injEq] at hbl
            exact hbl
          obtain ⟨ρ', h3, h4⟩ := Stp.swap (W' := W') hr hb hf (Nat.le_of_ble_eq_true hc1) hl hg (by simpa [Value.ownBlock] using hgr) hg2 (k' := cap2) (t' := treeOf (xs ++ news) 0 .e) (e' := e' + 2) (sz' := i.size) ⟨hm2, cur2, hh2, hs2, fun j v hj => by
            obtain ⟨V, h5, h6⟩ := treeOf_rep hall j v hj
            refine ⟨V, ?_, h6⟩
            have h7 : (XS ++ NS)[j]? = some V := by simpa using h5
            rw [← ht2, List.getElem?_take] at h7
            split at h7
            · rw [← Array.getElem?_toList]; exact h7
            · cases h7⟩
          refine ⟨_, W', ρ', hrun, ?_, h4⟩
          rw [Rep]
          exact ⟨_, _, h3, rfl, by simp only [Cap.under]; omega⟩
        · cases h
      · cases h
    · cases h
  · cases h
theorem appTo_cnt {c : Ctx} {e bytes size k : Nat} {s r : AV} {news : List AV} {m m' : Mem} (h : appTo c e bytes size s news k m = .ok r m') : m'.cnt = m.cnt + 1 := by
  unfold appTo at h
  split at h
  · injection h with h1 h2; subst h2; rfl
  · split at h
    · split at h
      · revert h
        cases Nat.ble ((_ + k) * bytes) 70368744177664 <;> intro h
        · cases h
        revert h
        simp only [cond_true]
        cases Nat.ble (_ + k) 1000000000 <;> intro h
        · cases h
        simp only [cond_true] at h
        split at h
        · revert h
          cases Nat.blt _ (_ + k) <;> intro h
          · cases h
          · injection h with h1 h2; subst h2; rfl
        · revert h
          cases Nat.ble c.bar _ <;> intro h
          · cases h
          revert h
          simp only [cond_true]
          cases Nat.beq _ e <;> intro h
          · cases h
          revert h
          simp only [cond_true]
          cases Nat.beq _ size <;> intro h
          · cases h
          · injection h with h1 h2; subst h2; rfl
        · cases h
      · cases h
    · cases h
  · cases h
theorem evAppend_ok {c : Ctx} {ρ : Env} {m m' : Mem} {W : World} {t1 t2 ty : TypeId} {s x r : AV} {S X : Value} (h : evAppend c t1 t2 s x m = .ok r m') (hs : Rep ρ s S) (hx : Rep ρ x X) (hr : HRep c ρ m W) (hb : c.bar ≤ m.cnt) (hf : m.cnt < m'.cnt → ρ m.cnt = none) :
    ∃ V W' ρ', (Builtin.append_ #[t1, t2] ty #[S, X]).run c.P W = .ok V W' ∧ Rep ρ' r V ∧ Stp c ρ m W ρ' m' W' := by
  unfold evAppend at h
  cases ht : Nat.beq t1 t2 <;> rw [ht] at h
  · cases h
  simp only [cond_true] at h
  have e1 := Nat.eq_of_beq_eq_true ht
  subst e1
  split at h
  · rename_i e hu
    split at h
    · rename_i i hi
      split at h
      · rename_i z hz
        cases hb1 : Nat.beq z.cells.size i.size <;> rw [hb1] at h
        · cases h
        cases hb2 : Nat.blt 0 i.size <;> rw [hb2] at h
        · cases h
        simp only [cond_true] at h
        have h1 := Nat.eq_of_beq_eq_true hb1
        have h2 : 0 < i.size := Nat.le_of_ble_eq_true hb2
        split at h
        · injection h with h3 h4; subst h3; subst h4
          simp only [Rep] at hs hx
          subst hs; subst hx
          exact ⟨_, W, ρ, append_none hu hi none 0 0 (Nat.le_refl _) none 0, by simp [Rep], Stp.refl hr⟩
        · injection h with h3 h4; subst h3; subst h4
          have hs' := hs
          simp only [Rep] at hs hx
          obtain ⟨g, k, hg, rfl, hle⟩ := hs
          subst hx
          exact ⟨_, W, ρ, append_none hu hi _ _ _ hle none 0, hs', Stp.refl hr⟩
        · injection h with h3 h4; subst h3; subst h4
          simp only [Rep] at hs hx
          subst hs
          obtain ⟨g, k, hg, rfl, _⟩ := hx
          exact ⟨_, W, ρ, append_none hu hi none 0 0 (Nat.le_refl _) _ _, by simp [Rep], Stp.refl hr⟩
        · injection h with h3 h4; subst h3; subst h4
          have hs' := hs
          simp only [Rep] at hs hx
          obtain ⟨g, k, hg, rfl, hle⟩ := hs
          obtain ⟨g2, k2, hg2, rfl, _⟩ := hx
          exact ⟨_, W, ρ, append_none hu hi _ _ _ hle _ _, hs', Stp.refl hr⟩
        · rename_i _ _ b o k cp
          rw [Rep] at hx
          obtain ⟨g, kk, hg, rfl, hle⟩ := hx
          split at h
          · rename_i tr e' sz hrow
            obtain ⟨g', k', h3, h4⟩ := hr.row _ _ _ _ (rowIn_ok hrow)
            rw [hg] at h3
            injection h3 with h3
            injection h3 with h3 h5
            subst h3; subst h5
            split at h
            · rename_i news hn
              obtain ⟨hx1, hx2⟩ := cellsAt_ok _ _ _ hn
              obtain ⟨NS, hN1, hN2⟩ := row_list h4 news o hx2
              cases hb3 : allOne news <;> rw [hb3] at h
              · cases h
              cases hb4 : Nat.ble ((k + 1) * i.bytes) 70368744177664 <;> rw [hb4] at h
              · cases h
              cases hb5 : Nat.ble (k + 1) 1000000000 <;> rw [hb5] at h
              · cases h
              simp only [cond_true] at h
              exact appTo_ok hu hi hz h1 h2 (Nat.succ_pos k) h hs hr hb (hf (by rw [appTo_cnt h]; omega)) hx1 hN1 hb3 (fun j V hj => by rw [addr_add]; exact hN2 j V hj) (Nat.le_of_ble_eq_true hb4) (Nat.le_of_ble_eq_true hb5)
            · cases h
          · cases h
        · cases h
      · cases h
    · cases h
  · cases h

end Go.Proofs.YtajmkdbokdjmeaaGreat
/- An evaluator: maps. Kit only. -/
namespace Go.Proofs.YtajmkdbokdjmeaaGreat
open Go.RowKit
theorem get_map {P : Program} {W : World} {r n : Nat} {es : Array MapEntry} (h : W.heap[r]? = some (.map es n)) : (getObj r).run P W = .ok (.map es n) W := by simp [getObj, Sem.run, h]
theorem set_map {P : Program} {W : World} {r n : Nat} {es : Array MapEntry} (o : Obj) (h : W.heap[r]? = some (.map es n)) : (setObj r o).run P W = .ok () { W with heap := W.heap.setIfInBounds r o } := by simp [setObj, Sem.run, h]
def keyTd : TypeDesc → AV → Bool
  | .string, .str _ => true
  | .int _, .int _ _ => true
  | .bool, .bool _ => true
  | _, _ => false
theorem checkKey_flat {P : Program} {W : World} {empty : Bool} {t : TypeId} {td : TypeDesc} {x : AV} {X : Value} (hu : P.underlying t = some td) (hk : keyTd td x = true) : (Instr.checkKey empty 10000 t X).run P W = .ok () W := by
  suffices H : ∀ d : Nat, (Instr.checkKey empty (d + 1) t X).run P W = .ok () W from H 9999
  intro d
  unfold Instr.checkKey
  simp only [Sem.run_bind, run_underlying hu, Result.andThen_ok]
  cases td <;> cases x <;> simp only [keyTd] at hk <;> first | (cases hk; done) | (cases X <;> simp)
noncomputable def keyEq (x y : AV) : Option Bool :=
  match x, y with
  | .str a, .str b => some (a == b)
  | .int k a, .int k' b => if k = k' then some (a == b) else none
  | .bool a, .bool b => some (a == b)
  | _, _ => none
theorem bytes_same (x y : List UInt8) : ((⟨x.toArray⟩ : ByteArray) == ⟨y.toArray⟩) = (x == y) := by
  show (x.toArray == y.toArray) = (x == y)
  simp
theorem bytes_self (x : ByteArray) : (x == x) = true := by
  show (x.data == x.data) = true
  simp
theorem keyEq_ok {ρ : Env} {td : TypeDesc} {x y : AV} {X Y : Value} {b : Bool} (h : keyEq x y = some b) (hk : keyTd td x = true) (hx : Rep ρ x X) (hy : Rep ρ y Y) : Instr.sameNow td X Y = some b ∧ (b = true → X = Y) := by
  unfold keyEq at h
  split at h
  · rename_i p q
    injection h with h
    simp only [Rep] at hx hy
    subst hx; subst hy; subst h
    cases td <;> simp only [keyTd] at hk <;> first | (cases hk; done) | skip
    refine ⟨by simp only [Instr.sameNow]; rw [bytes_same], fun h => by rw [eq_of_beq h]⟩
  · rename_i k p k' q
    split at h
    · rename_i hkk
      injection h with h
      simp only [Rep] at hx hy
      subst hx; subst hy; subst h; subst hkk
      cases td <;> simp only [keyTd] at hk <;> first | (cases hk; done) | skip
      refine ⟨by simp [Instr.sameNow], fun h => by rw [eq_of_beq h]⟩
    · cases h
  · rename_i p q
    injection h with h
    simp only [Rep] at hx hy
    subst hx; subst hy; subst h
    cases td <;> simp only [keyTd] at hk <;> first | (cases hk; done) | skip
    refine ⟨by simp only [Instr.sameNow], fun h => by rw [eq_of_beq h]⟩
  · cases h
noncomputable def evFind (x : AV) (l : List AV) : Nat → Option (Option (Nat × AV × Nat)) :=
  List.rec (motive := fun _ => Nat → Option (Option (Nat × AV × Nat))) (fun _ => some none)
    (fun e _ ih i => match e with
      | .tup [k, v, .int .i64 (.ofNat n)] => match keyEq x k with
        | some true => some (some (i, v, n))
        | some false => ih (Nat.succ i)
        | none => none
      | _ => none) l
theorem evFind_ok {ρ : Env} {td : TypeDesc} {x : AV} {X : Value} (hk : keyTd td x = true) (hx : Rep ρ x X) {l : List AV} {es : List MapEntry} (he : EntR ρ l es) : ∀ (i : Nat) (r : Option (Nat × AV × Nat)), evFind x l i = some r →
    (r = none → Instr.findNow td X es i = some none) ∧ ∀ j v n, r = some (j, v, n) → ∃ q V, j = i + q ∧ es[q]? = some { key := X, val := V, born := n } ∧ Rep ρ v V ∧ Instr.findNow td X es i = some (some (j, V)) := by
  induction he with
  | nil =>
    intro i r h
    have h' : some none = some r := h
    injection h' with h'
    subst h'
    exact ⟨fun _ => rfl, fun j v n h => by cases h⟩
  | @cons k v n K V l es hK hV _ ih =>
    intro i r h
    have h' : (match keyEq x k with
        | some true => some (some (i, v, n))
        | some false => evFind x l (i + 1)
        | none => none) = some r := h
    split at h'
    · rename_i hq
      injection h' with h'
      subst h'
      obtain ⟨h1, h2⟩ := keyEq_ok hq hk hx hK
      have := h2 rfl
      subst this
      refine ⟨fun h => (by cases h), fun j u p h => ?_⟩
      injection h with h
      injection h with h3 h4
      injection h4 with h4 h5
      subst h3; subst h4; subst h5
      exact ⟨0, V, rfl, rfl, hV, by simp only [Instr.findNow, h1]⟩
    · rename_i hq
      obtain ⟨h1, _⟩ := keyEq_ok hq hk hx hK
      obtain ⟨h3, h4⟩ := ih (i + 1) r h'
      refine ⟨fun h => by simp only [Instr.findNow, h1]; exact h3 h, fun j u p h => ?_⟩
      obtain ⟨q, U, h5, h6, h7, h8⟩ := h4 j u p h
      exact ⟨q + 1, U, by omega, by simpa using h6, h7, by simp only [Instr.findNow, h1]; exact h8⟩
    · cases h'
theorem findKey_ok {P : Program} {W : World} {t : TypeId} {td : TypeDesc} {X : Value} {es : List MapEntry} {r : Option (Nat × Value)} (hu : P.underlying t = some td) (h : Instr.findNow td X es 0 = some r) : (Instr.findKey t X es).run P W = .ok r W := by
  unfold Instr.findKey
  simp [run_underlying hu, h]
/-- The map that a number stands for. -/
noncomputable def rowMap (c : Ctx) (m : Mem) (b : Nat) : Option (List AV × Nat × Nat) :=
  cond (seenIn c.hid b) (match m.h.get b with
    | some (.row t 0 sz) => match t.get 0, t.get 1 with
      | some (.tup l), some (.int .i64 (.ofNat n)) => some (l, n, sz)
      | _, _ => none
    | _ => none) none
theorem rowMap_ok {c : Ctx} {m : Mem} {b : Nat} {l : List AV} {n sz : Nat} (h : rowMap c m b = some (l, n, sz)) : ∃ t, Live c m b t 0 sz ∧ t.get 0 = some (.tup l) ∧ t.get 1 = some (.int .i64 (Int.ofNat n)) := by
  unfold rowMap at h
  cases hs : seenIn c.hid b <;> rw [hs] at h
  · cases h
  · simp only [cond_true] at h
    split at h
    · rename_i t sz' hg
      split at h
      · rename_i l' n' h1 h2
        injection h with h
        injection h with h3 h
        injection h with h4 h5
        subst h3; subst h4; subst h5
        exact ⟨t, ⟨hs, hg⟩, h1, h2⟩
      · cases h
    · cases h
theorem rowMap_rep {c : Ctx} {ρ : Env} {m : Mem} {W : World} {b : Nat} {l : List AV} {n sz : Nat} (h : rowMap c m b = some (l, n, sz)) (hr : HRep c ρ m W) {g k : Nat} (hg : ρ b = some (g, k)) : ∃ t es, Live c m b t 0 sz ∧ W.heap[g]? = some (.map es n) ∧ EntR ρ l es.toList := by
  obtain ⟨t, h1, h2, h3⟩ := rowMap_ok h
  obtain ⟨g', k', h4, h5⟩ := hr.row _ _ _ _ h1
  rw [hg] at h4
  injection h4 with h4
  injection h4 with h4 h6
  subst h4; subst h6
  obtain ⟨l', n', es, h7, h8, h9, h10⟩ := h5
  rw [h2] at h7
  injection h7 with h7
  injection h7 with h7
  rw [h3] at h8
  injection h8 with h8
  injection h8 with _ h8
  injection h8 with h8
  subst h7; subst h8
  exact ⟨t, es, h1, h9, h10⟩
noncomputable def mapTree (l : List AV) (n : Nat) : Tr AV := .n (.n .e (some (.int .i64 (Int.ofNat n))) .e) (some (.tup l)) .e
theorem mapTree_rep {ρ : Env} {W : World} {g : Nat} {l : List AV} {n : Nat} {es : Array MapEntry} (hg : W.heap[g]? = some (.map es n)) (he : EntR ρ l es.toList) (k sz : Nat) : RowRep ρ W g k (mapTree l n) 0 sz := ⟨l, n, es, rfl, rfl, hg, he⟩
noncomputable def zeroAV (P : Program) (t : TypeId) : Option AV :=
  match P.info? t with
  | some i => match i.zero with
    | some z => ofValue z
    | none => none
  | none => none
theorem zeroAV_run {P : Program} {t : TypeId} {a : AV} (h : zeroAV P t = some a) (W : World) : ∃ z, (zeroValue t).run P W = .ok z W ∧ ∀ ρ, Rep ρ a z := by
  unfold zeroAV at h
  split at h
  · rename_i i hi
    split at h
    · rename_i z hz
      exact ⟨z, by simp [zeroValue, typeInfo, hi, hz], fun ρ => ofValue_rep h⟩
    · cases h
  · cases h
def withOk (ok : Bool) (v : AV) (is : Bool) : AV := cond ok (.tup [v, .bool is]) v
theorem withOk_rep {ρ : Env} {ok is : Bool} {v : AV} {V : Value} (h : Rep ρ v V) : Rep ρ (withOk ok v is) (if ok then .tuple #[V, .bool is] else V) := by
  cases ok
  · exact h
  · show Rep ρ (.tup [v, .bool is]) (.tuple #[V, .bool is])
    rw [Rep]
    refine ⟨[V, .bool is], ?_, rfl⟩
    rw [RepL]
    exact ⟨V, [.bool is], h, RepL.one (by rw [Rep]), rfl⟩
noncomputable def evLookup (c : Ctx) (t : TypeId) (x key : AV) (ok : Bool) (m : Mem) : Option AV :=
  match c.P.underlying t with
  | some (.map kt et) =>
    match c.P.underlying kt with
    | some td => cond (keyTd td key)
      (match x with
      | .nilmap => match zeroAV c.P et with
        | some z => some (withOk ok z false)
        | none => none
      | .map b =>
        match rowMap c m b with
        | some (l, _, _) =>
          match evFind key l 0 with
          | some (some (_, v, _)) => some (withOk ok v true)
          | some none => (match zeroAV c.P et with
            | some z => some (withOk ok z false)
            | none => none)
          | none => none
        | none => none
      | _ => none) none
    | none => none
  | _ => none
theorem evLookup_ok {c : Ctx} {ρ : Env} {m : Mem} {W : World} {t : TypeId} {x key v : AV} {X K : Value} {ok : Bool} (h : evLookup c t x key ok m = some v) (hx : Rep ρ x X) (hK : Rep ρ key K) (hr : HRep c ρ m W) : Gives c.P (Instr.lookup t X K ok) W ρ v := by
  unfold evLookup at h
  split at h
  · rename_i kt et hu
    split at h
    · rename_i td hkt
      cases hk : keyTd td key <;> rw [hk] at h
      · cases h
      simp only [cond_true] at h
      split at h
      · split at h
        · rename_i z hz
          injection h with h
          subst h
          obtain ⟨Z, h1, h2⟩ := zeroAV_run hz W
          simp only [Rep] at hx
          subst hx
          refine ⟨_, ?_, withOk_rep (h2 ρ)⟩
          have hck := checkKey_flat (P := c.P) (W := W) (empty := true) (X := K) hkt hk
          have hfk := findKey_ok (P := c.P) (W := W) (t := kt) (X := K) (es := []) (r := none) hkt rfl
          unfold Instr.lookup
          cases ok <;> simp [run_underlying hu, hck, hfk, h1]
        · cases h
      · rename_i b
        rw [Rep] at hx
        obtain ⟨g, k, hg, rfl⟩ := hx
        split at h
        · rename_i l n sz hrow
          obtain ⟨tr, es, _, h4, h5⟩ := rowMap_rep hrow hr hg
          have hget := get_map (P := c.P) h4
          have hck := checkKey_flat (P := c.P) (W := W) (empty := es.isEmpty) (X := K) hkt hk
          split at h
          · rename_i j u p hf
            injection h with h
            subst h
            obtain ⟨_, h6⟩ := evFind_ok hk hK h5 0 _ hf
            obtain ⟨q, U, _, _, h9, h10⟩ := h6 _ _ _ rfl
            have hfk := findKey_ok (P := c.P) (W := W) (t := kt) hkt h10
            refine ⟨_, ?_, withOk_rep h9⟩
            unfold Instr.lookup
            cases ok <;> simp [run_underlying hu, hget, hck, hfk]
          · rename_i hf
            split at h
            · rename_i z hz
              injection h with h
              subst h
              obtain ⟨Z, h1, h2⟩ := zeroAV_run hz W
              obtain ⟨h6, _⟩ := evFind_ok hk hK h5 0 _ hf
              have hfk := findKey_ok (P := c.P) (W := W) (t := kt) hkt (h6 rfl)
              refine ⟨_, ?_, withOk_rep (h2 ρ)⟩
              unfold Instr.lookup
              cases ok <;> simp [run_underlying hu, hget, hck, hfk, h1]
            · cases h
          · cases h
        · cases h
      · cases h
    · cases h
  · cases h
theorem EntR.set {ρ : Env} {key val : AV} {K V : Value} (hK : Rep ρ key K) (hV : Rep ρ val V) {l : List AV} {es : List MapEntry} (he : EntR ρ l es) : ∀ (q n : Nat) (U : Value), es[q]? = some { key := K, val := U, born := n } →
    EntR ρ (l.set q (.tup [key, val, .int .i64 (Int.ofNat n)])) (es.modify q fun e => { e with key := K, val := V }) := by
  induction he with
  | nil => intro q n U h; simp at h
  | @cons k v n' K' V' l es hk hv he ih =>
    intro q n U h
    cases q with
    | zero =>
      have h' : ({ key := K', val := V', born := n' } : MapEntry) = { key := K, val := U, born := n } := by simpa using h
      injection h' with h1 h2 h3
      subst h3
      exact .cons hK hV he
    | succ q =>
      exact .cons hk hv (ih q n U (by simpa using h))
theorem EntR.app {ρ : Env} {key val : AV} {K V : Value} {n : Nat} (hK : Rep ρ key K) (hV : Rep ρ val V) {l : List AV} {es : List MapEntry} (he : EntR ρ l es) : EntR ρ (l ++ [.tup [key, val, .int .i64 (Int.ofNat n)]]) (es ++ [{ key := K, val := V, born := n }]) := by
  induction he with
  | nil => exact .cons hK hV .nil
  | cons hk hv _ ih => exact .cons hk hv ih
noncomputable def evMapPut (c : Ctx) (t : TypeId) (x key val : AV) (m : Mem) : RV :=
  match c.P.underlying t with
  | some (.map kt _) =>
    match c.P.underlying kt with
    | some td => cond (keyTd td key)
      (match x with
      | .map b =>
        match rowMap c m b with
        | some (l, n, sz) =>
          cond (Nat.ble c.bar b)
            (match evFind key l 0 with
            | some (some (q, _, p)) => .ok (.tup []) ⟨m.h.set b (.row (mapTree (l.set q (.tup [key, val, .int .i64 (Int.ofNat p)])) n) 0 sz), m.cnt⟩
            | some none => .ok (.tup []) ⟨m.h.set b (.row (mapTree (l ++ [.tup [key, val, .int .i64 (Int.ofNat n)]]) (Nat.succ n)) 0 sz), m.cnt⟩
            | none => .fail) .fail
        | none => .fail
      | _ => .fail) .fail
    | none => .fail
  | _ => .fail
theorem sameBits_self {td : TypeDesc} {x : AV} {X : Value} {ρ : Env} (hk : keyTd td x = true) (hx : Rep ρ x X) : Instr.sameBits 10000 X X = true := by
  cases x <;> simp only [Rep] at hx <;> first
    | (subst hx; simp [Instr.sameBits]; done)
    | (subst hx; simp only [Instr.sameBits]; exact bytes_self _)
    | (cases td <;> simp only [keyTd] at hk <;> cases hk)
theorem evMapPut_ok {c : Ctx} {ρ : Env} {m m' : Mem} {W : World} {t : TypeId} {x key val r : AV} {X K V : Value} (h : evMapPut c t x key val m = .ok r m') (hx : Rep ρ x X) (hK : Rep ρ key K) (hV : Rep ρ val V) (hr : HRep c ρ m W) :
    r = .tup [] ∧ ∃ W', (Instr.mapUpdate t X K V).run c.P W = .ok () W' ∧ Stp c ρ m W ρ m' W' := by
  unfold evMapPut at h
  split at h
  · rename_i kt et hu
    split at h
    · rename_i td hkt
      cases hk : keyTd td key <;> rw [hk] at h
      · cases h
      simp only [cond_true] at h
      split at h
      · rename_i b
        rw [Rep] at hx
        obtain ⟨g, k, hg, rfl⟩ := hx
        split at h
        · rename_i l n sz hrow
          obtain ⟨tr, es, hl, h4, h5⟩ := rowMap_rep hrow hr hg
          have hget := get_map (P := c.P) h4
          have hck := checkKey_flat (P := c.P) (W := W) (empty := false) (X := K) hkt hk
          have hlt : g < W.heap.size := (Array.getElem?_eq_some_iff.1 h4).1
          cases hb : Nat.ble c.bar b <;> rw [hb] at h
          · cases h
          simp only [cond_true] at h
          split at h
          · rename_i q u p hf
            injection h with h1 h2
            subst h1; subst h2
            obtain ⟨_, h6⟩ := evFind_ok hk hK h5 0 _ hf
            obtain ⟨q', U, h7, h8, h9, h10⟩ := h6 _ _ _ rfl
            have hqq : q' = q := by omega
            subst hqq
            have hfk := findKey_ok (P := c.P) (W := W) (t := kt) hkt h10
            have h8' : es[q']? = some { key := K, val := U, born := p } := by simpa using h8
            have hsb := sameBits_self hk hK
            have hset := set_map (P := c.P) (.map (es.modify q' fun e => { e with key := K, val := V }) n) h4
            refine ⟨rfl, { W with heap := W.heap.setIfInBounds g (.map (es.modify q' fun e => { e with key := K, val := V }) n) }, ?_, ?_⟩
            · unfold Instr.mapUpdate
              simp [run_underlying hu, hget, hck, hfk, h8', Instr.keyThatStays, hsb, hset]
            · refine Stp.put hr (Nat.le_of_ble_eq_true hb) hl hg (fun q hq => ?_) rfl rfl rfl (by simp) (mapTree_rep (es := es.modify q' fun e => { e with key := K, val := V }) ?_ ?_ _ _)
              · exact Array.getElem?_setIfInBounds_ne (Ne.symm hq)
              · simp [hlt]
              · rw [Array.toList_modify]
                exact h5.set hK hV q' p U h8
          · rename_i hf
            injection h with h1 h2
            subst h1; subst h2
            obtain ⟨h6, _⟩ := evFind_ok hk hK h5 0 _ hf
            have hfk := findKey_ok (P := c.P) (W := W) (t := kt) hkt (h6 rfl)
            have hset := set_map (P := c.P) (.map (es.push { key := K, val := V, born := n }) (n + 1)) h4
            refine ⟨rfl, { W with heap := W.heap.setIfInBounds g (.map (es.push { key := K, val := V, born := n }) (n + 1)) }, ?_, ?_⟩
            · unfold Instr.mapUpdate
              simp [run_underlying hu, hget, hck, hfk, hset]
            · refine Stp.put hr (Nat.le_of_ble_eq_true hb) hl hg (fun q hq => ?_) rfl rfl rfl (by simp) (mapTree_rep (es := es.push { key := K, val := V, born := n }) ?_ ?_ _ _)
              · exact Array.getElem?_setIfInBounds_ne (Ne.symm hq)
              · simp [hlt]
              · rw [Array.toList_push]
                exact h5.app hK hV
          · cases h
        · cases h
      · cases h
    · cases h
  · cases h
noncomputable def newMapM (m : Mem) : Mem := ⟨m.h.set m.cnt (.row (mapTree [] 0) 0 0), m.cnt + 1⟩
/-- make of a map, whose room is a number or is left out. -/
noncomputable def evMakeMap (P : Program) (t : TypeId) (r : Option AV) (m : Mem) : RV :=
  match r with
  | none => .ok (.map m.cnt) (newMapM m)
  | some (.int _ _) => (match P.underlying t with
    | some (.map _ _) => .ok (.map m.cnt) (newMapM m)
    | _ => .fail)
  | _ => .fail
theorem evMakeMap_ok {c : Ctx} {ρ : Env} {m m' : Mem} {W : World} {t : TypeId} {r : Option AV} {R : Option Value} {v : AV} (h : evMakeMap c.P t r m = .ok v m') (hR : RepO ρ r R) (hr : HRep c ρ m W) (hb : c.bar ≤ m.cnt) (hf : ρ m.cnt = none) :
    ∃ V W' ρ', (Instr.makeMap t R).run c.P W = .ok V W' ∧ Rep ρ' v V ∧ Stp c ρ m W ρ' m' W' := by
  obtain ⟨ρ', h1, h2⟩ := Stp.allocG (t := mapTree [] 0) (e := 0) (sz := 0) (k := 0) (ob := .map #[] 0) hr hb hf (mapTree_rep (es := #[]) (heap_alloc_new W _) .nil _ _)
  have hv : Rep ρ' (.map m.cnt) (.map (some W.heap.size)) := by rw [Rep]; exact ⟨_, _, h1, rfl⟩
  unfold evMakeMap at h
  split at h
  · injection h with h3 h4
    subst h3; subst h4
    cases hR
    exact ⟨_, _, ρ', by simp [Instr.makeMap], hv, h2⟩
  · rename_i k n
    split at h
    · rename_i kt et hu
      injection h with h3 h4
      subst h3; subst h4
      obtain ⟨U, h5, h6⟩ := hR
      simp only [Rep] at h6
      subst h5; subst h6
      exact ⟨_, _, ρ', by simp [Instr.makeMap, run_underlying hu, asInt, asIntOf], hv, h2⟩
    · cases h
  · cases h
noncomputable def evLenMap (c : Ctx) (t : TypeId) (b : Nat) (m : Mem) : Option AV :=
  match c.P.underlying t with
  | some (.map _ _) => match rowMap c m b with
    | some (l, _, _) => some (.int .i64 (Int.ofNat l.length))
    | none => none
  | _ => none
theorem EntR.length {ρ : Env} {l : List AV} {es : List MapEntry} (he : EntR ρ l es) : es.length = l.length := by
  induction he with
  | nil => rfl
  | cons _ _ _ ih => simp [ih]
theorem evLenMap_ok {c : Ctx} {ρ : Env} {m : Mem} {W : World} {t ty : TypeId} {b : Nat} {v : AV} {X : Value} (h : evLenMap c t b m = some v) (hx : Rep ρ (.map b) X) (hr : HRep c ρ m W) : Gives c.P (Builtin.len_ #[t] ty #[X]) W ρ v := by
  unfold evLenMap at h
  split at h
  · rename_i kt et hu
    rw [Rep] at hx
    obtain ⟨g, k, hg, rfl⟩ := hx
    split at h
    · rename_i l n sz hrow
      injection h with h
      subst h
      obtain ⟨tr, es, _, h4, h5⟩ := rowMap_rep hrow hr hg
      have hget := get_map (P := c.P) h4
      have hlen : es.size = l.length := by rw [← Array.length_toList]; exact h5.length
      refine ⟨.int .i64 (Int.ofNat l.length), ?_, by rw [Rep]⟩
      simp [Builtin.len_, run_underlying hu, hget, goInt, hlen]
    · cases h
  · cases h

end Go.Proofs.YtajmkdbokdjmeaaGreat
/- An evaluator: one operation. Kit only. -/
namespace Go.Proofs.YtajmkdbokdjmeaaGreat
open Go.RowKit
noncomputable def ret (v : Option AV) (m : Mem) : RV :=
  match v with
  | some v => .ok v m
  | none => .fail
theorem ret_ok {v : Option AV} {m m' : Mem} {r : AV} (h : ret v m = .ok r m') : v = some r ∧ m' = m := by
  unfold ret at h
  split at h
  · injection h with h1 h2; subst h1; subst h2; exact ⟨rfl, rfl⟩
  · cases h
noncomputable def opParts (c : Ctx) (env : Nat → Option AV) (l : List (Nat × Operand)) : Option (List (Nat × AV)) :=
  List.rec (motive := fun _ => Option (List (Nat × AV))) (some [])
    (fun p _ ih => match opd c env p.2 with
      | some v => match ih with
        | some m => some ((p.1, v) :: m)
        | none => none
      | none => none) l
theorem opParts_rep {c : Ctx} {ρ : Env} {env : Nat → Option AV} {a : Act} (hE : EvR ρ env a) (hg : ∀ g, g < c.ng → ∃ k, ρ g = some (g, k)) : ∀ (l : List (Nat × Operand)) (m : List (Nat × AV)), opParts c env l = some m → RepP ρ m (l.map fun p => (p.1, a.eval p.2))
  | [], m, h => by
    have : (some [] : Option (List (Nat × AV))) = some m := h
    injection this with this
    subst this
    simp [RepP]
  | p :: l, m, h => by
    have h' : (match opd c env p.2 with
      | some v => match opParts c env l with
        | some m => some ((p.1, v) :: m)
        | none => none
      | none => none) = some m := h
    split at h'
    · rename_i v hv
      split at h'
      · rename_i k hk
        injection h' with h'
        subst h'
        rw [List.map_cons, RepP]
        exact ⟨_, _, opd_rep hE hg hv, opParts_rep hE hg l k hk, rfl⟩
      · cases h'
    · cases h'
noncomputable def evLen (P : Program) (t : TypeId) (x : AV) : Option AV :=
  match P.underlying t, x with
  | some .string, .str s => some (.int .i64 s.length)
  | some (.slice _), .nils => some (.int .i64 0)
  | some (.slice _), .slice _ _ n _ => some (.int .i64 n)
  | some (.map _ _), .nilmap => some (.int .i64 0)
  | some (.array n _), _ => some (.int .i64 n)
  | _, _ => none
theorem evLen_ok {P : Program} {W : World} {ρ : Env} {t ty : TypeId} {x r : AV} {X : Value} (h : evLen P t x = some r) (hx : Rep ρ x X) : Gives P (Builtin.len_ #[t] ty #[X]) W ρ r := by
  unfold evLen at h
  split at h
  · rename_i s hu
    injection h with h; subst h
    simp only [Rep] at hx
    subst hx
    exact ⟨.int .i64 s.length, by simp [Builtin.len_, run_underlying hu, goInt, str_size], by simp [Rep]⟩
  · rename_i e hu
    injection h with h; subst h
    simp only [Rep] at hx
    subst hx
    exact ⟨.int .i64 0, by simp [Builtin.len_, run_underlying hu, goInt], by simp [Rep]⟩
  · rename_i e b o n cp hu
    injection h with h; subst h
    simp only [Rep] at hx
    obtain ⟨g, k, hg, rfl, _⟩ := hx
    exact ⟨.int .i64 n, by simp [Builtin.len_, run_underlying hu, goInt], by simp [Rep]⟩
  · rename_i k e hu
    injection h with h; subst h
    simp only [Rep] at hx
    subst hx
    exact ⟨.int .i64 0, by simp [Builtin.len_, run_underlying hu, goInt], by simp [Rep]⟩
  · rename_i n e hu
    injection h with h; subst h
    exact ⟨.int .i64 n, by simp [Builtin.len_, run_underlying hu, goInt], by simp [Rep]⟩
  · cases h
noncomputable def evMinMax (mx : Bool) (x y : AV) : Option AV :=
  match x, y with
  | .int k a, .int _ b => some (.int k (cond mx (if b > a then b else a) (if b < a then b else a)))
  | _, _ => none
theorem evMinMax_max {P : Program} {W : World} {ρ : Env} {tys : Array TypeId} {ty : TypeId} {x y r : AV} {X Y : Value} (h : evMinMax true x y = some r) (hx : Rep ρ x X) (hy : Rep ρ y Y) : Gives P (Builtin.max_ tys ty #[X, Y]) W ρ r := by
  unfold evMinMax at h
  split at h
  · injection h with h; subst h
    simp only [Rep] at hx hy
    subst hx; subst hy
    exact ⟨_, by simp [Builtin.max_, Builtin.max2]; rfl, by rw [Rep]; rfl⟩
  · cases h
theorem evMinMax_min {P : Program} {W : World} {ρ : Env} {tys : Array TypeId} {ty : TypeId} {x y r : AV} {X Y : Value} (h : evMinMax false x y = some r) (hx : Rep ρ x X) (hy : Rep ρ y Y) : Gives P (Builtin.min_ tys ty #[X, Y]) W ρ r := by
  unfold evMinMax at h
  split at h
  · injection h with h; subst h
    simp only [Rep] at hx hy
    subst hx; subst hy
    exact ⟨_, by simp [Builtin.min_, Builtin.min2]; rfl, by rw [Rep]; rfl⟩
  · cases h
noncomputable def evIface (P : Program) (t : TypeId) (x : AV) : Option AV :=
  match P.underlying t with
  | some (.interface _) => none
  | some _ => some (.iface t x)
  | none => none
theorem evIface_ok {P : Program} {W : World} {ρ : Env} {t : TypeId} {x r : AV} {X : Value} (h : evIface P t x = some r) (hx : Rep ρ x X) : Gives P (Instr.makeInterface t X) W ρ r := by
  unfold evIface at h
  split at h
  · cases h
  · rename_i td hne hu
    injection h with h; subst h
    refine ⟨.iface t X, ?_, by rw [Rep]; exact ⟨X, hx, rfl⟩⟩
    unfold Instr.makeInterface
    cases td <;> first | exact (hne _ rfl).elim | simp [run_underlying hu]
  · cases h
def isConst : Operand → Bool
  | .const _ => true
  | _ => false
/-- Two nil interfaces, one of them the literal. -/
noncomputable def evNil (P : Program) (op : BinOp) (t : TypeId) : Option AV :=
  match P.underlying t, op with
  | some (.interface _), .eql => some (.bool true)
  | some (.interface _), .neq => some (.bool false)
  | _, _ => none
theorem evNil_ok {P : Program} {W : World} {ρ : Env} {op : BinOp} {t : TypeId} {r : AV} {x y : Operand} (h : evNil P op t = some r) (hc : isConst y = true) : (eqGuard op t x y .nilIface .nilIface).run P W = .ok () W ∧ Gives P (binOp op t .nilIface .nilIface) W ρ r := by
  have hg : (eqGuard op t x y .nilIface .nilIface).run P W = .ok () W := by
    unfold eqGuard
    cases y <;> simp only [isConst] at hc <;> first | (cases hc; done) | (generalize (!(match op with | .eql => true | .neq => true | _ => false)) = fl; cases fl <;> simp)
  have heq : ∀ m, P.underlying t = some (.interface m) → (Op.equal t .nilIface .nilIface).run P W = .ok true W := fun m hu => by
    unfold Op.equal
    suffices H : ∀ d : Nat, (Op.equalIn (d + 1) t .nilIface .nilIface).run P W = .ok true W from H 9999
    intro d
    simp [Op.equalIn, run_underlying hu]
  unfold evNil at h
  split at h
  · rename_i m hu
    injection h with h; subst h
    exact ⟨hg, .bool true, by simp [binOp, heq m hu], by rw [Rep]⟩
  · rename_i m hu
    injection h with h; subst h
    exact ⟨hg, .bool false, by simp [binOp, heq m hu], by rw [Rep]⟩
  · cases h
/-- May a function be entered? -/
def mayEnter (P : Program) (f : Nat) : Bool :=
  match P.funcs[f]? with
  | some fn => !(fn.name == "runtime.NumGoroutine") && fn.body.isSome
  | none => false
theorem mayEnter_run {P : Program} {f : Nat} (h : mayEnter P f = true) (args : Array Value) (W : World) : (callFunc f args).run P W = .ok (.enter f args) W := by
  unfold mayEnter at h
  split at h
  · rename_i fn hf
    simp only [Bool.and_eq_true, Bool.not_eq_true'] at h
    have h2 : fn.body.isNone = false := by
      cases hb : fn.body with
      | none => rw [hb] at h; simp at h
      | some x => rfl
    unfold callFunc
    simp only [Sem.run_bind, run_program, Result.andThen_ok, hf, h.1, h2, Bool.false_eq_true, if_false, Sem.run_pure]
  · cases h
noncomputable def evCall (c : Ctx) (env : Nat → Option AV) (cl : Nat → List AV → Mem → RV) (k : Call) (m : Mem) : RV :=
  match k.callee with
  | .value f =>
    match opd c env f, opds c env k.args.toList with
    | some (.func f l), some args => cond (mayEnter c.P f) (cl f (args ++ l) m) .fail
    | some (.bound f fs l), some args => cond (mayEnter c.P f) (cl f (fs ++ (args ++ l)) m) .fail
    | _, _ => .fail
  | .builtin .len =>
    match opds c env k.args.toList, k.argTypes.toList with
    | some [.map b], [t] => ret (evLenMap c t b m) m
    | some [x], [t] => ret (evLen c.P t x) m
    | _, _ => .fail
  | .builtin .append =>
    match opds c env k.args.toList, k.argTypes.toList with
    | some [s, x], [t1, t2] => evAppend c t1 t2 s x m
    | _, _ => .fail
  | .builtin .max =>
    match opds c env k.args.toList with
    | some [x, y] => ret (evMinMax true x y) m
    | _ => .fail
  | .builtin .min =>
    match opds c env k.args.toList with
    | some [x, y] => ret (evMinMax false x y) m
    | _ => .fail
  | _ => .fail
def AV.sure : AV → Bool
  | .ptr _ _ => true
  | .slice _ _ _ _ => true
  | .func _ _ => true
  | .bound _ _ _ => true
  | .str _ => true
  | .int _ _ => true
  | .map _ => true
  | _ => false
noncomputable def optd (c : Ctx) (env : Nat → Option AV) (x : Option Operand) : Option (Option AV) :=
  match x with
  | none => some none
  | some x => match opd c env x with
    | some v => some (some v)
    | none => none
noncomputable def evOper (c : Ctx) (env : Nat → Option AV) (cl : Nat → List AV → Mem → RV) (op : Op) (m : Mem) : RV :=
  match op with
  | .move x => ret (opd c env x) m
  | .assign x => ret (opd c env x) m
  | .pick b x y =>
    match opd c env b with
    | some (.bool t) => ret (cond t (opd c env x) (opd c env y)) m
    | _ => .fail
  | .alloc e => evAlloc c.P e m
  | .box e x =>
    match opd c env x with
    | some v => evBox e v m
    | none => .fail
  | .build t ps =>
    match opParts c env ps.toList with
    | some l => ret (evBuild c.P t l) m
    | none => .fail
  | .buildSlice t n ps =>
    match opParts c env ps.toList with
    | some l => evBuildSlice c.P t n l m
    | none => .fail
  | .load t x =>
    match opd c env x with
    | some v => ret (evLoad c t v m) m
    | none => .fail
  | .store t x y =>
    match opd c env x, opd c env y with
    | some u, some v => evStore c t u v m
    | _, _ => .fail
  | .nilCheck x =>
    match opd c env x with
    | some v => cond v.sure (.ok v m) .fail
    | none => .fail
  | .binOp op t x y _ =>
    match opd c env x, opd c env y with
    | some .niliface, some .niliface => cond (isConst y) (ret (evNil c.P op t) m) .fail
    | some u, some v => ret (evBin c.P op t u v) m
    | _, _ => .fail
  | .unOp op _ x =>
    match opd c env x with
    | some u => ret (evUn op u) m
    | none => .fail
  | .convert s d x =>
    match opd c env x with
    | some u => ret (evConv c.P s d u) m
    | none => .fail
  | .slice t x lo hi none =>
    match opd c env x, optd c env lo, optd c env hi with
    | some u, some l, some h => ret (evSlice c.P t u l h) m
    | _, _, _ => .fail
  | .fieldAddr t x f =>
    match opd c env x with
    | some u => ret (evFieldAddr c.P t f u) m
    | none => .fail
  | .field t x f =>
    match opd c env x with
    | some u => ret (evField c.P t f u) m
    | none => .fail
  | .indexAddr t x i =>
    match opd c env x, opd c env i with
    | some u, some v => ret (evIndexAddr c.P t u v) m
    | _, _ => .fail
  | .index t x i =>
    match opd c env x, opd c env i with
    | some u, some v => ret (evIndex c.P t u v) m
    | _, _ => .fail
  | .extract x i =>
    match opd c env x with
    | some u => ret (evExtract i u) m
    | none => .fail
  | .makeFunc (.func f) first l =>
    match opds c env first.toList, opds c env l.toList with
    | some [], some l => .ok (.func f l) m
    | some fs, some l => .ok (.bound f fs l) m
    | _, _ => .fail
  | .call k => evCall c env cl k m
  | .lookup t x i ok =>
    match opd c env x, opd c env i with
    | some u, some v => ret (evLookup c t u v ok m) m
    | _, _ => .fail
  | .mapUpdate t x i y =>
    match opd c env x, opd c env i, opd c env y with
    | some u, some v, some w => evMapPut c t u v w m
    | _, _, _ => .fail
  | .insert t x i y =>
    match opd c env x, opd c env i, opd c env y with
    | some u, some v, some w => evMapPut c t u v w m
    | _, _, _ => .fail
  | .makeMap t r =>
    match optd c env r with
    | some r => evMakeMap c.P t r m
    | none => .fail
  | .makeInterface t x =>
    match opd c env x with
    | some u => ret (evIface c.P t u) m
    | none => .fail
  | _ => .fail
/-- Numbers are free in between. -/
def Free (ρ : Env) (a b : Nat) : Prop := ∀ x, a ≤ x → x < b → ρ x = none
/-- What calls do. -/
def CallOK (c : Ctx) (cl : Nat → List AV → Mem → RV) : Prop :=
  ∀ f args m v m', cl f args m = .ok v m' → ∀ ρ ARGS W, RepL ρ args ARGS → HRep c ρ m W → c.bar ≤ m.cnt → m.wf → Free ρ m.cnt m'.cnt →
    Calls c.P f ARGS.toArray W fun e W' => ∃ V ρ', e = .returned V ∧ Rep ρ' v V ∧ Stp c ρ m W ρ' m' W'
theorem optd_rep {c : Ctx} {ρ : Env} {env : Nat → Option AV} {a : Act} (hE : EvR ρ env a) (hg : ∀ g, g < c.ng → ∃ k, ρ g = some (g, k)) {x : Option Operand} {v : Option AV} (h : optd c env x = some v) : RepO ρ v (x.map a.eval) := by
  unfold optd at h
  split at h
  · injection h with h; subst h; rfl
  · split at h
    · rename_i hv
      injection h with h; subst h
      exact ⟨_, rfl, opd_rep hE hg hv⟩
    · cases h
theorem Does.gives {c : Ctx} {ρ : Env} {m : Mem} {W : World} {o : Oper} {a : Act} {v : AV} {s : Sem Value} (hr : HRep c ρ m W) (hx : (execOp a.eval o).run c.P W = (do pure (Next.value (← s)) : Sem Next).run c.P W) (hg : Gives c.P s W ρ v) : Does c ρ m W o a v m := by
  obtain ⟨V, h1, h2⟩ := hg
  exact Does.value (by rw [hx]; simp [h1]) h2 (Stp.refl hr)
theorem Does.made {c : Ctx} {ρ : Env} {m m' : Mem} {W : World} {o : Oper} {a : Act} {v : AV} {s : Sem Value} (hx : (execOp a.eval o).run c.P W = (do pure (Next.value (← s)) : Sem Next).run c.P W) (hg : ∃ V W' ρ', s.run c.P W = .ok V W' ∧ Rep ρ' v V ∧ Stp c ρ m W ρ' m' W') : Does c ρ m W o a v m' := by
  obtain ⟨V, W', ρ', h1, h2, h3⟩ := hg
  exact Does.value (by rw [hx]; simp [h1]) h2 h3

end Go.Proofs.YtajmkdbokdjmeaaGreat
