/- Components by two visits, in plain words. -/
import Derived.Test.YtneehdjaaofjaaaE6
namespace Go.Proofs.Ytneehdjaaofjaaa
open Go.RowKit
def rvp (ps : List (Nat × Nat)) : List (Nat × Nat) := ps.map fun p => (p.2, p.1)
theorem rvp_mem {ps : List (Nat × Nat)} {a b : Nat} : (a, b) ∈ rvp ps ↔ (b, a) ∈ ps := by
  unfold rvp
  simp only [List.mem_map, Prod.mk.injEq]
  constructor
  · rintro ⟨⟨x, y⟩, h, rfl, rfl⟩
    exact h
  · intro h
    exact ⟨(b, a), h, rfl, rfl⟩
theorem Lds.first {ps : List (Nat × Nat)} {a b c : Nat} (h : (a, b) ∈ ps) (k : Lds ps b c) : Lds ps a c := (Lds.one h).trans k
theorem Lds.rev {ps : List (Nat × Nat)} {a b : Nat} (h : Lds (rvp ps) a b) : Lds ps b a := by
  induction h with
  | refl => exact .refl
  | step _ e ih => exact .first (rvp_mem.1 e) ih
theorem Lds.unrev {ps : List (Nat × Nat)} {a b : Nat} (h : Lds ps b a) : Lds (rvp ps) a b := by
  induction h with
  | refl => exact .refl
  | step _ e ih => exact .first (rvp_mem.2 e) ih
theorem split_one {i : Nat} {A B C D : List Nat} (h : A ++ i :: B = C ++ i :: D) (hn : (A ++ i :: B).Nodup) : B = D := by
  induction A generalizing C with
  | nil =>
    cases C with
    | nil => simpa using h
    | cons x r =>
      simp only [List.nil_append, List.cons_append, List.cons.injEq] at h
      obtain ⟨rfl, h⟩ := h
      rw [List.nil_append, List.nodup_cons] at hn
      exact absurd (by rw [h]; simp) hn.1
  | cons y q ih =>
    cases C with
    | nil =>
      simp only [List.nil_append, List.cons_append, List.cons.injEq] at h
      obtain ⟨rfl, h⟩ := h
      rw [List.cons_append, List.nodup_cons] at hn
      exact absurd (by simp) hn.1
    | cons x r =>
      simp only [List.cons_append, List.cons.injEq] at h
      rw [List.cons_append, List.nodup_cons] at hn
      exact ih h.2 hn.2
theorem Aft.drop {L : List Nat} {i y m : Nat} (hn : L.Nodup) (hi : L[m]? = some i) (h : Aft L i y) : y = i ∨ y ∈ L.drop (m + 1) := by
  obtain ⟨A, B, e, h⟩ := h
  obtain ⟨hl, rfl⟩ := List.getElem?_eq_some_iff.1 hi
  have e2 : L = L.take m ++ L[m] :: L.drop (m + 1) := by
    rw [← List.drop_eq_getElem_cons hl, List.take_append_drop]
  have e3 : B = L.drop (m + 1) := (split_one (e2.symm.trans e) (by rw [← e2]; exact hn)).symm
  rw [← e3]
  exact h
/-- What the second visits have told, from place m of the list on. -/
structure GInv (ps : List (Nat × Nat)) (N : Nat) (L : List Nat) (m : Nat) (K : List Bool) (Q : List Int) : Prop where
  made ::
  len : K.length = N
  mks : ∀ x, mk K x ↔ ∃ i ∈ L.drop m, Mut ps x i
  qlen : Q.length = N
  top : ∀ x, mk K x → ∃ t : Nat, Q[x]? = some (t : Int) ∧ Top ps x t
theorem GInv.first (ps : List (Nat × Nat)) (N : Nat) (L : List Nat) (Q : List Int) (hQ : Q.length = N) : GInv ps N L L.length (List.replicate N false) Q :=
  ⟨by simp, fun x => ⟨fun h => absurd h (none_mk N x), fun ⟨i, hi, _⟩ => by simp at hi⟩, hQ, fun x h => absurd h (none_mk N x)⟩
/-- What a second visit leaves is i's component. -/
theorem GInv.comp {ps : List (Nat × Nat)} {N m i : Nat} {L new : List Nat} {K K' : List Bool} {Q : List Int} (hn : L.Nodup) (hlate : Late ps (List.replicate N false) L) (hall : ∀ x y, x ∈ L → Lds ps y x → y ∈ L)
    (h : GInv ps N L (m + 1) K Q) (hi : L[m]? = some i) (hv : Vis (rvp ps) K i new K') (hk : ¬ mk K i) (b : Nat) : b ∈ new ↔ Mut ps b i := by
  have hiL : i ∈ L := List.mem_of_getElem? hi
  rw [hv.all]
  constructor
  · intro hl
    have hbi := hl.lds.rev
    obtain ⟨y, h1, h2, h3⟩ := hlate b i (hall i b hiL hbi) hiL (LdA.of_none (none_mk N) hbi)
    rcases h1.drop hn hi with rfl | h4
    · exact ⟨h2.lds, h3.lds⟩
    · exact absurd ((h.mks b).2 ⟨y, h4, h2.lds, h3.lds⟩) hl.lst
  · rintro ⟨h1, h2⟩
    have key : ∀ {z}, Lds (rvp ps) i z → Lds ps i z → LdA (rvp ps) K i z := by
      intro z hz
      induction hz with
      | refl => exact fun _ => .refl hk
      | step hp e ih =>
        intro hiz
        rename_i b c
        refine .step (ih (hiz.step (rvp_mem.1 e))) e fun hm => hk ?_
        obtain ⟨j, hj, hmu⟩ := (h.mks c).1 hm
        exact (h.mks i).2 ⟨j, hj, (show Mut ps i c from ⟨hiz, (Lds.step hp e).rev⟩).trans hmu⟩
    exact key (h1.unrev) h2
theorem GInv.next {ps : List (Nat × Nat)} {N m i c0 : Nat} {L new : List Nat} {K K' : List Bool} {Q Q' : List Int} (hn : L.Nodup) (hlate : Late ps (List.replicate N false) L) (hall : ∀ x y, x ∈ L → Lds ps y x → y ∈ L)
    (h : GInv ps N L (m + 1) K Q) (hi : L[m]? = some i) (hv : Vis (rvp ps) K i new K') (hq : Q'.length = N) (hc : new ≠ [] → c0 ∈ new ∧ ∀ u ∈ new, c0 ≤ u) (h1 : ∀ b ∈ new, Q'[b]? = some (c0 : Int)) (h2 : ∀ b, b ∉ new → Q'[b]? = Q[b]?) : GInv ps N L m K' Q' := by
  have hd : L.drop m = i :: L.drop (m + 1) := by
    obtain ⟨hl, rfl⟩ := List.getElem?_eq_some_iff.1 hi
    exact List.drop_eq_getElem_cons hl
  have hcomp : ∀ b, b ∈ new ↔ ¬ mk K i ∧ Mut ps b i := fun b => by
    by_cases hk : mk K i
    · constructor
      · intro hb
        exact absurd hk (hv.way b hb).fst
      · rintro ⟨hh, _⟩
        exact absurd hk hh
    · rw [h.comp hn hlate hall hi hv hk b]
      exact ⟨fun hh => ⟨hk, hh⟩, fun hh => hh.2⟩
  refine ⟨hv.seg.len.trans h.len, fun x => ?_, hq, fun x hx => ?_⟩
  · rw [hv.seg.mks, h.mks, hcomp, hd]
    constructor
    · rintro (⟨j, hj, hm⟩ | ⟨_, hm⟩)
      · exact ⟨j, List.mem_cons_of_mem _ hj, hm⟩
      · exact ⟨i, by simp, hm⟩
    · rintro ⟨j, hj, hm⟩
      rcases List.mem_cons.1 hj with rfl | hj
      · by_cases hk : mk K j
        · obtain ⟨u, hu, hmu⟩ := (h.mks j).1 hk
          exact .inl ⟨u, hu, hm.trans hmu⟩
        · exact .inr ⟨hk, hm⟩
      · exact .inl ⟨j, hj, hm⟩
  · by_cases hxn : x ∈ new
    · obtain ⟨h3, h4⟩ := hc (by intro e; rw [e] at hxn; cases hxn)
      obtain ⟨hk, hxi⟩ := (hcomp x).1 hxn
      refine ⟨c0, h1 x hxn, hxi.trans ((hcomp c0).1 h3).2.symm, fun u hu => h4 u ((hcomp u).2 ⟨hk, hu.symm.trans hxi⟩)⟩
    · rw [h2 x hxn]
      exact h.top x (((hv.seg.mks x).1 hx).elim id fun e => absurd e hxn)
theorem GInv.gr {ps : List (Nat × Nat)} {N : Nat} {L : List Nat} {K : List Bool} {Q : List Int} (h : GInv ps N L 0 K Q) (hall : ∀ x, x < N → x ∈ L) : IsGr N ps Q :=
  ⟨h.qlen, fun v hv => h.top v ((h.mks v).2 ⟨v, by rw [List.drop_zero]; exact hall v hv, Mut.refl _ _⟩)⟩
theorem late_of {ps : List (Nat × Nat)} {N : Nat} {K : List Bool} {is L : List Nat} (h : Seqs ps (List.replicate N false) is L K) (hx : ∀ x, x < N → x ∈ is) (hp : ∀ a b, (a, b) ∈ ps → a < N ∧ b < N) : (∀ x, x < N → x ∈ L) ∧ ∀ x y, x ∈ L → Lds ps y x → y ∈ L := by
  have h1 : ∀ x, x < N → x ∈ L := fun x hl => (h.all x).2 ⟨x, hx x hl, .refl⟩
  refine ⟨h1, fun x y hxL hl => ?_⟩
  have key : y = x ∨ y < N := by
    clear hxL
    induction hl with
    | refl => exact .inl rfl
    | step _ e ih =>
      rcases ih with rfl | ih
      · exact .inr (hp _ _ e).1
      · exact .inr ih
  rcases key with rfl | hy
  · exact hxL
  · exact h1 y hy

end Go.Proofs.Ytneehdjaaofjaaa
