/- Marks that spread along edges, in plain words. -/
import Derived.Test.YtneehdjaaofjaaaY5
namespace Go.Proofs.Ytneehdjaaofjaaa
open Go.RowKit
def mk (M : List Bool) (a : Nat) : Prop := M[a]? = some true
instance (M : List Bool) (a : Nat) : Decidable (mk M a) := by unfold mk; infer_instance
theorem mk_lt {M : List Bool} {a : Nat} (h : mk M a) : a < M.length := (List.getElem?_eq_some_iff.1 h).1
theorem not_mk {M : List Bool} {a : Nat} (ha : a < M.length) (h : ¬ mk M a) : M[a]? = some false := by
  have e := List.getElem?_eq_getElem ha
  unfold mk at h
  rw [e] at h ⊢
  cases hb : M[a] with
  | true => exact absurd (by rw [hb]) h
  | false => rfl
theorem mk_set {M : List Bool} {a b : Nat} (hb : b < M.length) : mk (M.set b true) a ↔ a = b ∨ mk M a := by
  unfold mk
  rw [List.getElem?_set]
  by_cases h : b = a
  · rw [if_pos h, if_pos (by omega)]
    simp [h]
  · rw [if_neg h]
    constructor
    · exact .inr
    · rintro (rfl | h')
      · exact absurd rfl h
      · exact h'
def fcnt (M : List Bool) : Nat := M.countP fun b => !b
theorem fcnt_set : ∀ {M : List Bool} {b : Nat}, M[b]? = some false → fcnt (M.set b true) + 1 = fcnt M
  | [], b, h => by simp at h
  | x :: r, 0, h => by
    simp only [List.getElem?_cons_zero, Option.some.injEq] at h
    subst h
    simp [fcnt]
  | x :: r, b + 1, h => by
    have := fcnt_set (M := r) (b := b) (by simpa using h)
    unfold fcnt at *
    rw [List.set_cons_succ, List.countP_cons, List.countP_cons]
    omega
/-- What is marked came of M0, and M0 is marked. -/
def From (ps : List (Nat × Nat)) (M0 M : List Bool) : Prop := M.length = M0.length ∧ (∀ a, mk M0 a → mk M a) ∧ ∀ b, mk M b → ∃ a, mk M0 a ∧ Lds ps a b
theorem From.refl (ps : List (Nat × Nat)) (M : List Bool) : From ps M M := ⟨rfl, fun _ h => h, fun b h => ⟨b, h, .refl⟩⟩
theorem From.set {ps : List (Nat × Nat)} {M0 M : List Bool} (h : From ps M0 M) {a b : Nat} (hab : (a, b) ∈ ps) (ha : mk M a) (hb : b < M.length) : From ps M0 (M.set b true) :=
  ⟨by rw [List.length_set]; exact h.1, fun x hx => (mk_set hb).2 (.inr (h.2.1 x hx)), fun x hx => by
    rcases (mk_set hb).1 hx with rfl | hx
    · obtain ⟨c, hc, hl⟩ := h.2.2 a ha
      exact ⟨c, hc, hl.step hab⟩
    · exact h.2.2 x hx⟩
/-- The first i edges lead to nothing new. -/
def ShutI (N : Nat) (E : List Edg) (M : List Bool) (i : Nat) : Prop := ∀ j e, j < i → E[j]? = some e → edgeIn N e = true → mk M e.fr.toNat → mk M e.to.toNat
theorem ShutI.zero (N : Nat) (E : List Edg) (M : List Bool) : ShutI N E M 0 := fun j e h => absurd h (Nat.not_lt_zero _)
theorem ShutI.next {N : Nat} {E : List Edg} {M : List Bool} {i : Nat} {e : Edg} (h : ShutI N E M i) (he : E[i]? = some e) (k : edgeIn N e = true → mk M e.fr.toNat → mk M e.to.toNat) : ShutI N E M (i + 1) := fun j f hj hf => by
  rcases Nat.lt_succ_iff_lt_or_eq.1 hj with hj | rfl
  · exact h j f hj hf
  · rw [he] at hf
    injection hf with hf
    subst hf
    exact k
/-- All that M0's marks lead to. -/
def IsCl (ps : List (Nat × Nat)) (M0 M : List Bool) : Prop := M.length = M0.length ∧ ∀ b, mk M b ↔ ∃ a, mk M0 a ∧ Lds ps a b
theorem From.shut {N : Nat} {E : List Edg} {M0 M : List Bool} (h : From (prs N E) M0 M) (k : ShutI N E M E.length) : IsCl (prs N E) M0 M :=
  ⟨h.1, fun b => ⟨h.2.2 b, fun ⟨a, ha, hl⟩ => hl.shut (S := mk M) (fun x y hxy hx => by
    obtain ⟨h1, h2, e, he, e1, e2⟩ := prs_mem.1 hxy
    obtain ⟨j, hj⟩ := List.getElem?_of_mem he
    have hjl := (List.getElem?_eq_some_iff.1 hj).1
    have := k j e hjl hj (decide_eq_true (by omega))
    rw [e1, e2, Int.toNat_natCast, Int.toNat_natCast] at this
    exact this hx) (h.2.1 a ha)⟩⟩
theorem IsCl.mk_iff {ps : List (Nat × Nat)} {M0 M : List Bool} (h : IsCl ps M0 M) (b : Nat) : mk M b ↔ ∃ a, mk M0 a ∧ Lds ps a b := h.2 b
/-- One mark alone. -/
def one (N v : Nat) : List Bool := (List.replicate N false).set v true
theorem one_len (N v : Nat) : (one N v).length = N := by simp [one]
theorem one_mk {N v a : Nat} (hv : v < N) : mk (one N v) a ↔ a = v := by
  unfold one
  rw [mk_set (by simpa using hv)]
  constructor
  · rintro (h | h)
    · exact h
    · unfold mk at h
      rw [List.getElem?_replicate] at h
      split at h
      · injection h with h; cases h
      · cases h
  · exact .inl
theorem one_leads {ps : List (Nat × Nat)} {N v : Nat} {M : List Bool} (hv : v < N) (h : IsCl ps (one N v) M) (b : Nat) : mk M b ↔ Lds ps v b := by
  rw [h.2]
  constructor
  · rintro ⟨a, ha, hl⟩
    rw [(one_mk hv).1 ha] at hl
    exact hl
  · intro hl
    exact ⟨v, (one_mk hv).2 rfl, hl⟩
/-- The numbers that are marked, in turn. -/
def marked (M : List Bool) : List Int := ((List.range M.length).filter fun v => decide (mk M v)).map fun (v : Nat) => (v : Int)
theorem marked_mem {M : List Bool} {x : Int} : x ∈ marked M ↔ ∃ b : Nat, mk M b ∧ x = b := by
  unfold marked
  simp only [List.mem_map, List.mem_filter, List.mem_range, decide_eq_true_eq]
  constructor
  · rintro ⟨b, ⟨_, h⟩, rfl⟩
    exact ⟨b, h, rfl⟩
  · rintro ⟨b, h, rfl⟩
    exact ⟨b, ⟨mk_lt h, h⟩, rfl⟩
theorem marked_rise (M : List Bool) : RiseI (marked M) := by
  unfold marked RiseI
  rw [List.pairwise_map]
  exact (List.Pairwise.filter _ List.pairwise_lt_range).imp fun h => by omega

end Go.Proofs.Ytneehdjaaofjaaa
