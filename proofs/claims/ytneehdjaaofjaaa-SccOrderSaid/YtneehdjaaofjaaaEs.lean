/- The order of components, in plain words. -/
import Derived.Test.YtneehdjaaofjaaaEg
import Derived.Test.YtneehdjaaofjaaaE8
namespace Go.Proofs.Ytneehdjaaofjaaa
open Go.RowKit
/-- How often j stands in the first n rows, but for those of D. -/
def remN (H : List (List Int)) (D : List Nat) (j : Nat) : Nat → Nat
  | 0 => 0
  | n + 1 => remN H D j n + if n ∈ D then 0 else ((H[n]?).getD []).count (j : Int)
theorem remN_nil (H : List (List Int)) (j : Nat) : ∀ n, n ≤ H.length → remN H [] j n = cntP' H n j
  | 0, _ => by simp [remN, cntP']
  | n + 1, h => by
    have hn : n < H.length := by omega
    rw [remN, remN_nil H j n (by omega), cntP'_succ (List.getElem?_eq_getElem hn), List.getElem?_eq_getElem hn]
    simp
theorem remN_same (H : List (List Int)) (D : List Nat) (j i : Nat) : ∀ n, n ≤ i → remN H (D ++ [i]) j n = remN H D j n
  | 0, _ => rfl
  | n + 1, h => by
    rw [remN, remN, remN_same H D j i n (by omega)]
    have : (n ∈ D ++ [i]) ↔ n ∈ D := by
      rw [List.mem_append, List.mem_singleton]
      exact ⟨fun h => h.resolve_right (by omega), .inl⟩
    simp only [this]
theorem remN_add (H : List (List Int)) (D : List Nat) (j i : Nat) (hi : i ∉ D) : ∀ n, i < n → remN H D j n = remN H (D ++ [i]) j n + ((H[i]?).getD []).count (j : Int)
  | 0, h => by omega
  | n + 1, h => by
    rw [remN, remN]
    by_cases e : i = n
    · subst e
      rw [remN_same H D j i i (Nat.le_refl _), if_neg hi, if_pos (by simp)]
      omega
    · rw [remN_add H D j i hi n (by omega)]
      have : (n ∈ D ++ [i]) ↔ n ∈ D := by
        rw [List.mem_append, List.mem_singleton]
        exact ⟨fun h => h.resolve_right (by omega), .inl⟩
      simp only [this]
      omega
theorem remN_zero (H : List (List Int)) (D : List Nat) (j : Nat) : ∀ n, remN H D j n = 0 ↔ ∀ i, i < n → i ∉ D → (j : Int) ∉ (H[i]?).getD []
  | 0 => by simp [remN]
  | n + 1 => by
    rw [remN, Nat.add_eq_zero_iff, remN_zero H D j n]
    constructor
    · rintro ⟨h1, h2⟩ i hi hd
      by_cases e : i = n
      · subst e
        rw [if_neg hd] at h2
        exact List.count_eq_zero.1 h2
      · exact h1 i (by omega) hd
    · intro h
      refine ⟨fun i hi hd => h i (by omega) hd, ?_⟩
      by_cases e : n ∈ D
      · rw [if_pos e]
      · rw [if_neg e]
        exact List.count_eq_zero.2 (h n (by omega) e)
/-- An edge between components, told by their least. -/
def BtR (ps : List (Nat × Nat)) (Q : List Int) (a b : Nat) : Prop := ∃ x y : Nat, (x, y) ∈ ps ∧ Q[x]? = some (a : Int) ∧ Q[y]? = some (b : Int) ∧ a ≠ b
theorem freeS_iff {N : Nat} {E : List Edg} {Q : List Int} {H : List (List Int)} (hg : IsGr N (prs N E) Q) (hK : GrK (BtR (prs N E) Q) N H) (D : List Nat) {v : Nat} : remN H D v N = 0 ↔ FreeO (prs N E) Q (nI D) v := by
  rw [remN_zero]
  constructor
  · intro h a b hab hb ha x hx
    obtain ⟨t, ht, htop⟩ := hg.2 a (prs_mem.1 hab).1
    rw [ht] at hx ha
    injection hx with hx
    subst hx
    have htv : t ≠ v := fun e => ha (by rw [e])
    have htN : t < N := htop.1.1.lt (prs_mem.1 hab).1
    obtain ⟨row, h1, h2⟩ := hK.all t v ⟨a, b, hab, ht, hb, htv⟩
    refine nI_mem.2 (Classical.byContradiction fun hd => h t htN hd ?_)
    rw [h1]
    exact h2
  · intro h i hi hd hm
    rcases hr : H[i]? with _ | row
    · rw [hr] at hm
      simp at hm
    · rw [hr] at hm
      obtain ⟨b, hb, _, x, y, h1, h2, h3, h4⟩ := hK.row i row hr _ hm
      obtain rfl : v = b := by omega
      exact hd (nI_mem.1 (h x y h1 h3 (by rw [h2]; intro e; injection e with e; omega) _ h2))
/-- Which may come: of those that nothing is missing. -/
structure RdI (N : Nat) (Q : List Int) (D : List Nat) (f : Nat → Nat) (B : List Int) : Prop where
  made ::
  nd : B.Nodup
  mem : ∀ x : Int, x ∈ B ↔ ∃ v : Nat, x = v ∧ v < N ∧ Q[v]? = some (v : Int) ∧ v ∉ D ∧ f v = 0
theorem RdI.perm {N : Nat} {Q : List Int} {D : List Nat} {f : Nat → Nat} {B C : List Int} (h : RdI N Q D f B) (p : C.Perm B) : RdI N Q D f C := ⟨p.nodup_iff.2 h.nd, fun x => by rw [p.mem_iff]; exact h.mem x⟩
theorem RdI.congr {N : Nat} {Q : List Int} {D : List Nat} {f g : Nat → Nat} {B : List Int} (h : RdI N Q D f B) (k : ∀ v, v < N → f v = g v) : RdI N Q D g B := ⟨h.nd, fun x => by
  rw [h.mem]
  constructor
  · rintro ⟨v, h1, h2, h3, h4, h5⟩
    exact ⟨v, h1, h2, h3, h4, by rw [← k v h2]; exact h5⟩
  · rintro ⟨v, h1, h2, h3, h4, h5⟩
    exact ⟨v, h1, h2, h3, h4, by rw [k v h2]; exact h5⟩⟩
theorem nodup_len {l : List Nat} : ∀ {N : Nat}, l.Nodup → (∀ x ∈ l, x < N) → l.length ≤ N := by
  intro N
  induction N generalizing l with
  | zero =>
    intro _ h
    cases l with
    | nil => exact Nat.le_refl _
    | cons a r => exact absurd (h a (by simp)) (Nat.not_lt_zero _)
  | succ n ih =>
    intro hn h
    by_cases hm : n ∈ l
    · have h1 := ih (l := l.erase n) (hn.erase _) (fun x hx => by
        have hx2 := List.mem_of_mem_erase hx
        have h3 := h x hx2
        have h4 : x ≠ n := fun e => by
          subst e
          exact (hn.mem_erase_iff.1 hx).1 rfl
        omega)
      rw [List.length_erase_of_mem hm] at h1
      omega
    · have h1 := ih hn (fun x hx => by
        have h3 := h x hx
        have h4 : x ≠ n := fun e => hm (e ▸ hx)
        omega)
      omega
/-- Where the order stands. -/
structure OrI (ps : List (Nat × Nat)) (N : Nat) (Q : List Int) (H : List (List Int)) (D : List Nat) (B Z : List Int) : Prop where
  made ::
  zl : Z.length = N
  z : ∀ j, j < N → Z[j]? = some ((remN H D j N : Nat) : Int)
  dn : D.Nodup
  dN : ∀ d ∈ D, d < N
  rd : RdI N Q D (fun v => remN H D v N) B
  d0 : ∀ d ∈ D, remN H D d N = 0
  ord : ∀ (k : Nat) (x : Int), (nI D)[k]? = some x → ∃ v : Nat, x = v ∧ NextO ps Q ((nI D).take k) v
/-- .. within a round: i has come, and the first k of its row are told. -/
structure OrK (ps : List (Nat × Nat)) (N : Nat) (Q : List Int) (H : List (List Int)) (D : List Nat) (row : List Int) (k : Nat) (B Z : List Int) : Prop where
  made ::
  zl : Z.length = N
  z : ∀ j, j < N → Z[j]? = some ((remN H D j N + (row.drop k).count (j : Int) : Nat) : Int)
  rd : RdI N Q D (fun v => remN H D v N + (row.drop k).count (v : Int)) B
  d0 : ∀ d ∈ D, remN H D d N + (row.drop k).count (d : Int) = 0
theorem OrI.take {N i : Nat} {E : List Edg} {Q : List Int} {H : List (List Int)} {D : List Nat} {B B' Z : List Int} {row : List Int} (hg : IsGr N (prs N E) Q) (hK : GrK (BtR (prs N E) Q) N H) (h : OrI (prs N E) N Q H D B Z)
    (hp : (B' ++ [(i : Int)]).Perm B) (hle : ∀ y ∈ B, (i : Int) ≤ y) (hr : H[i]? = some row) :
    i < N ∧ i ∉ D ∧ (D ++ [i]).Nodup ∧ (∀ d ∈ D ++ [i], d < N) ∧ OrK (prs N E) N Q H (D ++ [i]) row 0 B' Z ∧ ∀ (k : Nat) (x : Int), (nI (D ++ [i]))[k]? = some x → ∃ v : Nat, x = v ∧ NextO (prs N E) Q ((nI (D ++ [i])).take k) v := by
  have hmB : (i : Int) ∈ B := hp.mem_iff.1 (by simp)
  obtain ⟨v, e, hN, hQ, hD, h0⟩ := (h.rd.mem _).1 hmB
  obtain rfl : i = v := by omega
  have hnd : (B' ++ [(i : Int)]).Nodup := hp.nodup_iff.2 h.rd.nd
  rw [List.nodup_append] at hnd
  have hadd : ∀ j, remN H D j N = remN H (D ++ [i]) j N + row.count (j : Int) := fun j => by
    have := remN_add H D j i hD N hN
    rw [hr] at this
    exact this
  refine ⟨hN, hD, ?_, fun d hd => ?_, ⟨h.zl, fun j hj => by rw [h.z j hj, hadd, List.drop_zero], ⟨hnd.1, fun x => ?_⟩, fun d hd => ?_⟩, fun k x hx => ?_⟩
  · rw [List.nodup_append]
    refine ⟨h.dn, by simp, fun a ha b hb e => ?_⟩
    rw [List.mem_singleton] at hb
    subst e hb
    exact hD ha
  · rcases List.mem_append.1 hd with hd | hd
    · exact h.dN d hd
    · rw [List.mem_singleton] at hd
      subst hd
      exact hN
  · have hx : x ∈ B' ↔ x ∈ B ∧ x ≠ (i : Int) := by
      rw [← hp.mem_iff, List.mem_append, List.mem_singleton]
      constructor
      · intro hx
        exact ⟨.inl hx, fun e => hnd.2.2 x hx (i : Int) (by simp) e⟩
      · rintro ⟨hx | hx, hne⟩
        · exact hx
        · exact absurd hx hne
    rw [hx, h.rd.mem]
    constructor
    · rintro ⟨⟨v, rfl, h1, h2, h3, h4⟩, hne⟩
      refine ⟨v, rfl, h1, h2, ?_, ?_⟩
      · rw [List.mem_append, List.mem_singleton, not_or]
        exact ⟨h3, fun e => hne (by rw [e])⟩
      · rw [List.drop_zero, ← hadd]
        exact h4
    · rintro ⟨v, rfl, h1, h2, h3, h4⟩
      rw [List.mem_append, List.mem_singleton, not_or] at h3
      rw [List.drop_zero, ← hadd] at h4
      exact ⟨⟨v, rfl, h1, h2, h3.1, h4⟩, by omega⟩
  · rw [List.drop_zero, ← hadd]
    rcases List.mem_append.1 hd with hd | hd
    · exact h.d0 d hd
    · rw [List.mem_singleton] at hd
      subst hd
      exact h0
  · rw [nI_app] at hx ⊢
    by_cases hk : k < (nI D).length
    · rw [List.getElem?_append_left hk] at hx
      rw [List.take_append_of_le_length (by omega)]
      exact h.ord k x hx
    · have hl := (List.getElem?_eq_some_iff.1 hx).1
      rw [List.length_append] at hl
      have hk2 : k = (nI D).length := by
        have : (nI [i]).length = 1 := rfl
        omega
      subst hk2
      rw [List.getElem?_append_right (Nat.le_refl _), Nat.sub_self] at hx
      have hxi : x = (i : Int) := by
        simp [nI] at hx
        exact hx.symm
      subst hxi
      rw [List.take_left']
      · refine ⟨i, rfl, ⟨hQ, fun hm => hD (nI_mem.1 hm), (freeS_iff hg hK D).1 h0⟩, fun u hu hm => ?_⟩
        obtain ⟨m1, m2, m3⟩ := hm
        have huN : u < N := by
          have := (List.getElem?_eq_some_iff.1 m1).1
          rw [hg.1] at this
          exact this
        have hmu : (u : Int) ∈ B := (h.rd.mem _).2 ⟨u, rfl, huN, m1, fun hd => m2 (nI_mem.2 hd), (freeS_iff hg hK D).2 m3⟩
        have := hle _ hmu
        omega
      · rfl
theorem drop_count {row : List Int} {k x : Nat} (h : row[k]? = some (x : Int)) (j : Nat) : (row.drop k).count (j : Int) = (row.drop (k + 1)).count (j : Int) + if x = j then 1 else 0 := by
  obtain ⟨hl, e⟩ := List.getElem?_eq_some_iff.1 h
  rw [List.drop_eq_getElem_cons hl, e, List.count_cons]
  by_cases e2 : x = j
  · subst e2
    simp
  · have : ¬ (x : Int) = (j : Int) := by omega
    simp [e2, this]
theorem OrK.next {N j k z : Nat} {ps : List (Nat × Nat)} {Q : List Int} {H : List (List Int)} {D : List Nat} {B B' Z : List Int} {row : List Int} (h : OrK ps N Q H D row k B Z) (hk : row[k]? = some (j : Int)) (hj : j < N) (hQ : Q[j]? = some (j : Int))
    (hz : z + 1 = remN H D j N + (row.drop k).count (j : Int)) (hB : B'.Perm (if z = 0 then B ++ [(j : Int)] else B)) : OrK ps N Q H D row (k + 1) B' (Z.set j (z : Int)) := by
  have hjD : j ∉ D := fun hd => by
    have := h.d0 j hd
    omega
  have hf : ∀ v, v ≠ j → (row.drop k).count (v : Int) = (row.drop (k + 1)).count (v : Int) := fun v hv => by
    rw [drop_count hk, if_neg (fun e => hv e.symm)]
    rfl
  have hfj : remN H D j N + (row.drop (k + 1)).count (j : Int) = z := by
    rw [drop_count hk, if_pos rfl] at hz
    omega
  refine ⟨by rw [List.length_set]; exact h.zl, fun v hv => ?_, RdI.perm ?_ hB, fun d hd => ?_⟩
  · rw [List.getElem?_set]
    by_cases e : j = v
    · subst e
      rw [if_pos rfl, if_pos (by rw [h.zl]; exact hj), hfj]
    · rw [if_neg e, h.z v hv, hf v (fun e' => e e'.symm)]
  · by_cases hz0 : z = 0
    · rw [if_pos hz0]
      have hjB : (j : Int) ∉ B := fun hm => by
        obtain ⟨v, e, _, _, _, h0⟩ := (h.rd.mem _).1 hm
        obtain rfl : j = v := by omega
        omega
      refine ⟨?_, fun x => ?_⟩
      · rw [List.nodup_append]
        refine ⟨h.rd.nd, by simp, fun a ha b hb e => ?_⟩
        rw [List.mem_singleton] at hb
        subst e hb
        exact hjB ha
      · rw [List.mem_append, List.mem_singleton, h.rd.mem]
        constructor
        · rintro (⟨v, rfl, h1, h2, h3, h4⟩ | rfl)
          · have hvj : v ≠ j := fun e => by
              subst e
              omega
            exact ⟨v, rfl, h1, h2, h3, by rw [← hf v hvj]; exact h4⟩
          · exact ⟨j, rfl, hj, hQ, hjD, by omega⟩
        · rintro ⟨v, rfl, h1, h2, h3, h4⟩
          by_cases e : v = j
          · exact .inr (by rw [e])
          · exact .inl ⟨v, rfl, h1, h2, h3, by rw [hf v e]; exact h4⟩
    · rw [if_neg hz0]
      refine ⟨h.rd.nd, fun x => ?_⟩
      rw [h.rd.mem]
      constructor
      · rintro ⟨v, rfl, h1, h2, h3, h4⟩
        have hvj : v ≠ j := fun e => by
          subst e
          omega
        exact ⟨v, rfl, h1, h2, h3, by rw [← hf v hvj]; exact h4⟩
      · rintro ⟨v, rfl, h1, h2, h3, h4⟩
        have hvj : v ≠ j := fun e => by
          subst e
          omega
        exact ⟨v, rfl, h1, h2, h3, by rw [hf v hvj]; exact h4⟩
  · have hdj : d ≠ j := fun e => hjD (e ▸ hd)
    rw [← hf d hdj]
    exact h.d0 d hd
theorem OrK.end {N k : Nat} {ps : List (Nat × Nat)} {Q : List Int} {H : List (List Int)} {D : List Nat} {B Z : List Int} {row : List Int} (h : OrK ps N Q H D row k B Z) (hk : row.length ≤ k) (hd : D.Nodup) (hN : ∀ d ∈ D, d < N)
    (ho : ∀ (k : Nat) (x : Int), (nI D)[k]? = some x → ∃ v : Nat, x = v ∧ NextO ps Q ((nI D).take k) v) : OrI ps N Q H D B Z := by
  have e : row.drop k = [] := List.drop_eq_nil_iff.2 hk
  have hf : ∀ v : Nat, (row.drop k).count (v : Int) = 0 := fun v => by rw [e]; rfl
  exact ⟨h.zl, fun j hj => by rw [h.z j hj, hf]; rfl, hd, hN, h.rd.congr (fun v _ => by rw [hf]; rfl), fun d hm => by have := h.d0 d hm; omega, ho⟩
theorem OrI.done {N : Nat} {E : List Edg} {Q : List Int} {H : List (List Int)} {D : List Nat} {Z : List Int} (hg : IsGr N (prs N E) Q) (hK : GrK (BtR (prs N E) Q) N H) (h : OrI (prs N E) N Q H D [] Z) : IsOr (prs N E) Q (nI D) := by
  refine ⟨h.ord, fun v hv => ?_⟩
  obtain ⟨m1, m2, m3⟩ := hv
  have hvN : v < N := by
    have := (List.getElem?_eq_some_iff.1 m1).1
    rw [hg.1] at this
    exact this
  have : (v : Int) ∈ ([] : List Int) := (h.rd.mem _).2 ⟨v, rfl, hvN, m1, fun hd => m2 (nI_mem.2 hd), (freeS_iff hg hK D).2 m3⟩
  cases this

end Go.Proofs.Ytneehdjaaofjaaa
