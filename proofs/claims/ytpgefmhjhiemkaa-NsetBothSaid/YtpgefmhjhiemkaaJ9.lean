/- What is cut out of a run, in plain words; append, and whose block its answer has. -/
import Derived.Test.YtpgefmhjhiemkaaJ8
namespace Go.Proofs.Ytpgefmhjhiemkaa
open Go.RowKit
/-- What is left of the run from x1 to x2 without the runs of a rising list. -/
def cutX (x2 : Int) : Int → List (Int × Int) → List (Int × Int)
  | x1, [] => if x1 ≤ x2 then [(x1, x2)] else []
  | x1, y :: r => if x2 < y.1 then (if x1 ≤ x2 then [(x1, x2)] else []) else (if x1 < y.1 then [(x1, y.1 - 1)] else []) ++ cutX x2 (y.2 + 1) r
theorem cut_end {x1 x2 : Int} : SpOk (if x1 ≤ x2 then [(x1, x2)] else []) ∧ (∀ p ∈ (if x1 ≤ x2 then [(x1, x2)] else []), x1 ≤ p.1 ∧ p.2 ≤ x2) ∧ ∀ z, z ∈ els (if x1 ≤ x2 then [(x1, x2)] else []) ↔ x1 ≤ z ∧ z ≤ x2 := by
  by_cases h : x1 ≤ x2
  · rw [if_pos h]
    refine ⟨SpOk.one h, fun p hp => ?_, fun z => els_one_mem⟩
    obtain rfl := List.mem_singleton.1 hp
    exact ⟨Int.le_refl _, Int.le_refl _⟩
  · rw [if_neg h]
    refine ⟨trivial, fun p hp => (by cases hp), fun z => ?_⟩
    constructor
    · intro hz; exact absurd hz els_nil_mem
    · intro hz; omega
theorem cut_ok {x2 : Int} : ∀ {B : List (Int × Int)} {x1 : Int}, SpOk B → (∀ y ∈ B, x1 ≤ y.2) →
    SpOk (cutX x2 x1 B) ∧ (∀ p ∈ cutX x2 x1 B, x1 ≤ p.1 ∧ p.2 ≤ x2) ∧ ∀ z, z ∈ els (cutX x2 x1 B) ↔ x1 ≤ z ∧ z ≤ x2 ∧ z ∉ els B
  | [], x1, _, _ => by
    obtain ⟨h1, h2, h3⟩ := cut_end (x1 := x1) (x2 := x2)
    refine ⟨h1, h2, fun z => ?_⟩
    rw [show cutX x2 x1 [] = if x1 ≤ x2 then [(x1, x2)] else [] from rfl, h3]
    simp [els]
  | y :: r, x1, hB, hx => by
    have hy := hx y (by simp)
    have hyy := hB.head
    unfold cutX
    by_cases hb : x2 < y.1
    · rw [if_pos hb]
      obtain ⟨h1, h2, h3⟩ := cut_end (x1 := x1) (x2 := x2)
      refine ⟨h1, h2, fun z => ?_⟩
      rw [h3]
      constructor
      · rintro ⟨h4, h5⟩
        refine ⟨h4, h5, fun h => ?_⟩
        obtain ⟨q, hq, h6, h7⟩ := els_mem.1 h
        rcases List.mem_cons.1 hq with rfl | hq
        · omega
        · have := hB.far q hq
          omega
      · rintro ⟨h4, h5, _⟩
        exact ⟨h4, h5⟩
    · rw [if_neg hb]
      have hr : ∀ q ∈ r, y.2 + 1 ≤ q.2 := fun q hq => by
        have := hB.far q hq
        have := (spOk_iff.1 hB).1 q (by simp [hq])
        omega
      obtain ⟨h1, h2, h3⟩ := cut_ok (x2 := x2) (x1 := y.2 + 1) hB.tail hr
      have hnr : ∀ z, z ≤ y.2 + 1 → ¬ z ∈ els r := fun z hz h => by
        obtain ⟨q, hq, h6, h7⟩ := els_mem.1 h
        have := hB.far q hq
        omega
      by_cases hl : x1 < y.1
      · rw [if_pos hl]
        refine ⟨(SpOk.one (show x1 ≤ y.1 - 1 by omega)).app h1 fun p hp q hq => ?_, fun p hp => ?_, fun z => ?_⟩
        · obtain rfl := List.mem_singleton.1 hp
          have := (h2 q hq).1
          simp only
          omega
        · rcases List.mem_append.1 hp with hp | hp
          · obtain rfl := List.mem_singleton.1 hp
            exact ⟨Int.le_refl _, by simp only; omega⟩
          · have := h2 p hp
            omega
        · rw [els_app_mem, els_one_mem, h3, els_cons_mem]
          constructor
          · rintro (⟨h4, h5⟩ | ⟨h4, h5, h6⟩)
            · simp only at h4 h5
              refine ⟨h4, by omega, fun h => h.elim (fun h => by omega) (hnr z (by omega))⟩
            · exact ⟨by omega, h5, fun h => h.elim (fun h => by omega) h6⟩
          · rintro ⟨h4, h5, h6⟩
            rw [not_or] at h6
            by_cases hz : z < y.1
            · exact .inl ⟨h4, by simp only; omega⟩
            · refine .inr ⟨?_, h5, h6.2⟩
              have := h6.1
              omega
      · rw [if_neg hl, List.nil_append]
        refine ⟨h1, fun p hp => ?_, fun z => ?_⟩
        · have := h2 p hp
          omega
        · rw [h3, els_cons_mem]
          constructor
          · rintro ⟨h4, h5, h6⟩
            exact ⟨by omega, h5, fun h => h.elim (fun h => by omega) h6⟩
          · rintro ⟨h4, h5, h6⟩
            rw [not_or] at h6
            refine ⟨?_, h5, h6.2⟩
            have := h6.1
            omega
/-- What without holds at its outer loop's head. -/
structure WoP (A B : List (Int × Int)) (q s : Nat) (out : List (Int × Int)) : Prop where
  le : s ≤ B.length
  ok : SpOk out
  inn : SpIn out
  skip : ∀ (j : Nat) (y : Int × Int), B[j]? = some y → j < s → ∀ x ∈ A.drop q, y.2 < x.1
  far : ∀ p ∈ out, ∀ x ∈ A.drop q, p.2 + 1 < x.1
  all : ∀ z, z ∈ els out ↔ z ∈ els (A.take q) ∧ z ∉ els B
theorem WoP.first (A B : List (Int × Int)) : WoP A B 0 0 [] :=
  ⟨Nat.zero_le _, trivial, fun p hp => (by cases hp), fun _ _ _ h => (by omega), fun p hp => (by cases hp), fun z => by simp [els]⟩
theorem els_drop_mem {B : List (Int × Int)} {s : Nat} {z : Int} (h : ∀ (j : Nat) (y : Int × Int), B[j]? = some y → j < s → y.2 < z) : z ∈ els (B.drop s) ↔ z ∈ els B := by
  rw [els_mem, els_mem]
  constructor
  · rintro ⟨p, hp, h1⟩
    exact ⟨p, List.mem_of_mem_drop hp, h1⟩
  · rintro ⟨p, hp, h1⟩
    obtain ⟨j, hj⟩ := List.mem_iff_getElem?.1 hp
    by_cases hjs : j < s
    · have := h j p hj hjs
      omega
    · refine ⟨p, ?_, h1⟩
      refine List.mem_iff_getElem?.2 ⟨j - s, ?_⟩
      rw [List.getElem?_drop, show s + (j - s) = j by omega]
      exact hj
theorem WoP.step {A B : List (Int × Int)} {q s i : Nat} {out : List (Int × Int)} {x : Int × Int} (h : WoP A B q s out) (hA : SpOk A) (hAi : SpIn A) (hB : SpOk B) (hx : A[q]? = some x) (hf : Fnd (B.drop s) x.1 i) :
    WoP A B (q + 1) (s + i) (out ++ cutX x.2 x.1 (B.drop (s + i))) := by
  have hi := hf.le
  rw [List.length_drop] at hi
  have hle := h.le
  have hxA := List.mem_of_getElem? hx
  have hql := (List.getElem?_eq_some_iff.1 hx).1
  have hd : A.drop q = x :: A.drop (q + 1) := by
    rw [List.drop_eq_getElem_cons hql]
    congr 1
    exact (List.getElem?_eq_some_iff.1 hx).2
  have hxd : x ∈ A.drop q := by rw [hd]; simp
  have hsk : ∀ (j : Nat) (y : Int × Int), B[j]? = some y → j < s + i → y.2 < x.1 := fun j y hy hj => by
    by_cases hjs : j < s
    · exact h.skip j y hy hjs x hxd
    · exact hf.lo (j - s) y (by rw [List.getElem?_drop, show s + (j - s) = j by omega]; exact hy) (by omega)
  have hnx : ∀ x' ∈ A.drop (q + 1), x.2 + 1 < x'.1 := fun x' hx' => by
    have := hA.drop q
    rw [hd] at this
    exact this.far x' hx'
  have hxx := hA.le hx
  obtain ⟨c1, c2, c3⟩ := cut_ok (x2 := x.2) (x1 := x.1) (hB.drop (s + i)) (fun y hy => by
    obtain ⟨j, hj⟩ := List.mem_iff_getElem?.1 hy
    rw [List.getElem?_drop] at hj
    exact hf.hi (i + j) y (by rw [List.getElem?_drop, ← Nat.add_assoc]; exact hj) (by omega))
  refine ⟨by omega, h.ok.app c1 fun p hp r hr => ?_, fun p hp => ?_, fun j y hy hj x' hx' => ?_, fun p hp x' hx' => ?_, fun z => ?_⟩
  · have := h.far p hp x hxd
    have := (c2 r hr).1
    omega
  · rcases List.mem_append.1 hp with hp | hp
    · exact h.inn p hp
    · have := c2 p hp
      have := hAi x hxA
      omega
  · have := hsk j y hy hj
    have := hnx x' hx'
    omega
  · rcases List.mem_append.1 hp with hp | hp
    · exact h.far p hp x' (by rw [hd]; simp [hx'])
    · have := (c2 p hp).2
      have := hnx x' hx'
      omega
  · rw [els_app_mem, h.all, c3, List.take_add_one, hx]
    rw [show A.take q ++ (some x).toList = A.take q ++ [x] from rfl, els_app_mem, els_one_mem]
    constructor
    · rintro (⟨h1, h2⟩ | ⟨h1, h2, h3⟩)
      · exact ⟨.inl h1, h2⟩
      · refine ⟨.inr ⟨h1, h2⟩, fun h4 => h3 ?_⟩
        exact (els_drop_mem fun j y hy hj => by have := hsk j y hy hj; omega).2 h4
    · rintro ⟨h1 | ⟨h1, h2⟩, h3⟩
      · exact .inl ⟨h1, h3⟩
      · refine .inr ⟨h1, h2, fun h4 => h3 ?_⟩
        exact (els_drop_mem fun j y hy hj => by have := hsk j y hy hj; omega).1 h4
/-- append of one run, and whose block its answer has. -/
theorem app_spn2 {w : World} {ops : Array Oper} {rest : List Oper} {o : Oper} {a : Act} {Q : Exit → Act → World → Prop} (hgd : o.guard = none) (s x : Operand)
    (ho : o.op = .call { callee := .builtin .append, args := #[s, x], argTypes := #[42, 42] })
    (base : Nat) (v : Value) (S : List (Int × Int)) (p : Int × Int) (hs : a.eval s = v) (hown : OwS base w v S) (b : Nat) (fz : Nat × Nat)
    (hx : a.eval x = .slice (some ⟨b, 0, none⟩) 1 1) (hb : w.heap[b]? = some (.cells (spC p) 47 fz)) (hn : S.length ≤ 100000000000) (hbase : base ≤ w.heap.size)
    (h : ∀ v' w', OwS base w' v' (S ++ [p]) → w.grownBy w' v.ownBlock → (∀ g, v'.ownBlock = some g → v.ownBlock = some g ∨ w.heap.size ≤ g) → wpList Try.prog ops Q rest (a.put o.dst v') w') : wpList Try.prog ops Q (o :: rest) a w := by
  obtain ⟨i0, hi, hz0, hz1, hz2⟩ := info_parts infoSpan
  have hnews : ∀ (j : Nat) (u : Value), (spC p).toList[j]? = some u → w.cell? ((⟨b, 0, none⟩ : Addr).add j) = some u := fun j u hu => by
    rw [add_none, Nat.zero_add, cell_of_row _ _ _ _ _ _ hb, ← Array.getElem?_toList]
    exact hu
  obtain ⟨v', w', hr, h2, h3, _⟩ := run_append_own (P := Try.prog) w base 42 o.type 47 i0 _ 2 16 Try.underlying42 hi hz0 hz1 hz2 rfl (by decide) v S.length (flatC spC S) hown ⟨b, 0, none⟩ 1 1 (spC p).toList rfl hnews (spC_one p) (by unfold maxLen; omega) (by omega) hbase
  have hblk : ∀ g, v'.ownBlock = some g → v.ownBlock = some g ∨ w.heap.size ≤ g := by
    intro g hg
    rcases hown.2 with ⟨rfl, _⟩ | ⟨g0, cap, cur, rfl, hbg, hh, hnc, hcm, hcs, htake⟩
    · have hr2 := run_append_nil (P := Try.prog) w 42 o.type 47 i0 _ Try.underlying42 hi hz0 ⟨b, 0, none⟩ 1 1 (spC p).toList (by rw [hz1]; rfl) hnews (by omega) (by omega) (by rw [hz2]; omega)
      rw [hr2] at hr
      injection hr with e1 e2
      subst e1
      injection hg with hg
      exact .inr (by show w.heap.size ≤ g; have : w.heap.size = g := hg; omega)
    · by_cases hroom : S.length + 1 ≤ cap
      · have hr2 := run_append_room (P := Try.prog) w 42 o.type 47 i0 Try.underlying42 hi g0 S.length cap cur hh ⟨b, 0, none⟩ 1 1 (spC p).toList (by rw [hz1]; rfl) hnews (spC_one p) hroom (by rw [hz1, hcs]; show S.length * 2 + 2 ≤ cap * 2; omega)
        rw [hr2] at hr
        injection hr with e1 e2
        subst e1
        exact .inl hg
      · have hr2 := run_append_grow (P := Try.prog) w 42 o.type 47 i0 _ Try.underlying42 hi hz0 ⟨g0, 0, none⟩ S.length cap (flatC spC S) (by rw [hz1]; exact hown.1) (World.ownsRow.cells hown (g := g0) rfl) ⟨b, 0, none⟩ 1 1 (spC p).toList (by rw [hz1]; rfl) hnews (by omega) (by omega) (by rw [hz2]; exact growslice_fits (by omega) (by omega))
        rw [hr2] at hr
        injection hr with e1 e2
        subst e1
        injection hg with hg
        exact .inr (by show w.heap.size ≤ g; have : w.heap.size = g := hg; omega)
  refine wpList_plain hgd fun K hK => ?_
  unfold Oper.wp execOp
  simp only [ho, resolve, invoke, builtin, Sem.run_bind, Sem.run_pure, Result.andThen_ok, List.map_toArray, List.map_cons, List.map_nil, hs, hx, hr]
  refine hK _ _ (h v' w' ?_ h3 hblk)
  unfold OwS
  rw [flat_app, List.length_append, show flatC spC [p] = (spC p).toList by simp [flatC]]
  exact h2

end Go.Proofs.Ytpgefmhjhiemkaa
