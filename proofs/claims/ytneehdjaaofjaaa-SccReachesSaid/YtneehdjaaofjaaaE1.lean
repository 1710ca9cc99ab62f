/- A visit of a graph, in plain words: what is left, and when. -/
import Derived.Test.YtneehdjaaofjaaaY9
namespace Go.Proofs.Ytneehdjaaofjaaa
open Go.RowKit
/-- a leads to b past what is marked. -/
inductive LdA (ps : List (Nat × Nat)) (M : List Bool) (a : Nat) : Nat → Prop
  | refl : ¬ mk M a → LdA ps M a a
  | step {b c : Nat} : LdA ps M a b → (b, c) ∈ ps → ¬ mk M c → LdA ps M a c
theorem LdA.fst {ps : List (Nat × Nat)} {M : List Bool} {a b : Nat} (h : LdA ps M a b) : ¬ mk M a := by
  induction h with
  | refl h => exact h
  | step _ _ _ ih => exact ih
theorem LdA.lst {ps : List (Nat × Nat)} {M : List Bool} {a b : Nat} (h : LdA ps M a b) : ¬ mk M b := by
  cases h with
  | refl h => exact h
  | step _ _ h => exact h
theorem LdA.trans {ps : List (Nat × Nat)} {M : List Bool} {a b c : Nat} (h : LdA ps M a b) (k : LdA ps M b c) : LdA ps M a c := by
  induction k with
  | refl _ => exact h
  | step _ e n ih => exact .step ih e n
theorem LdA.mono {ps : List (Nat × Nat)} {M K : List Bool} (hm : ∀ x, mk M x → mk K x) {a b : Nat} (h : LdA ps K a b) : LdA ps M a b := by
  induction h with
  | refl h => exact .refl fun x => h (hm _ x)
  | step _ e n ih => exact .step ih e fun x => n (hm _ x)
theorem LdA.lds {ps : List (Nat × Nat)} {M : List Bool} {a b : Nat} (h : LdA ps M a b) : Lds ps a b := by
  induction h with
  | refl _ => exact .refl
  | step _ e _ ih => exact .step ih e
/-- What leads past nothing. -/
theorem LdA.of_none {ps : List (Nat × Nat)} {M : List Bool} (hM : ∀ x, ¬ mk M x) {a b : Nat} (h : Lds ps a b) : LdA ps M a b := by
  induction h with
  | refl => exact .refl (hM _)
  | step _ e ih => exact .step ih e (hM _)
/-- The way holds, or it comes by a set that it stays in. -/
theorem LdA.past {ps : List (Nat × Nat)} {M K : List Bool} {S : Nat → Prop} (hK : ∀ x, mk K x → mk M x ∨ S x) (hS : ∀ x y, S x → (x, y) ∈ ps → ¬ mk M y → S y) {a b : Nat} (h : LdA ps M a b) (hb : ¬ S b) : LdA ps K a b := by
  induction h with
  | refl h => exact .refl fun x => (hK _ x).elim h hb
  | step h1 e n ih =>
    rename_i b c
    have hb' : ¬ S b := fun hs => hb (hS _ _ hs e n)
    exact .step (ih hb') e fun x => (hK _ x).elim n hb
/-- y is i, or stands behind it. -/
def Aft (L : List Nat) (i y : Nat) : Prop := ∃ A B, L = A ++ i :: B ∧ (y = i ∨ y ∈ B)
theorem Aft.mem {L : List Nat} {i y : Nat} (h : Aft L i y) : i ∈ L ∧ y ∈ L := by
  obtain ⟨A, B, rfl, rfl | h⟩ := h
  · simp
  · simp [h]
theorem Aft.self {L : List Nat} {i : Nat} (h : i ∈ L) : Aft L i i := by
  obtain ⟨A, B, rfl⟩ := List.append_of_mem h
  exact ⟨A, B, rfl, .inl rfl⟩
theorem Aft.left {L : List Nat} {i y : Nat} (h : Aft L i y) (K : List Nat) : Aft (L ++ K) i y := by
  obtain ⟨A, B, rfl, h⟩ := h
  exact ⟨A, B ++ K, by simp, h.imp id fun h => by simp [h]⟩
theorem Aft.right {L : List Nat} {i y : Nat} (h : Aft L i y) (K : List Nat) : Aft (K ++ L) i y := by
  obtain ⟨A, B, rfl, h⟩ := h
  exact ⟨K ++ A, B, by simp, h⟩
theorem Aft.cross {L K : List Nat} {i y : Nat} (h : i ∈ L) (k : y ∈ K) : Aft (L ++ K) i y := by
  obtain ⟨A, B, rfl⟩ := List.append_of_mem h
  exact ⟨A, B ++ K, by simp, .inr (by simp [k])⟩
/-- Of two that lead to each other's group, the one that ends it is left last. -/
def Late (ps : List (Nat × Nat)) (M : List Bool) (new : List Nat) : Prop := ∀ x i, x ∈ new → i ∈ new → LdA ps M x i → ∃ y, Aft new i y ∧ LdA ps M x y ∧ LdA ps M y x
/-- What some visits did: new was left, in this order. -/
structure Seg (ps : List (Nat × Nat)) (M : List Bool) (new : List Nat) (K : List Bool) : Prop where
  made ::
  len : K.length = M.length
  nd : new.Nodup
  mks : ∀ b, mk K b ↔ mk M b ∨ b ∈ new
  fresh : ∀ b ∈ new, ¬ mk M b
  shut : ∀ a b, a ∈ new → (a, b) ∈ ps → mk K b
  late : Late ps M new
theorem Seg.refl (ps : List (Nat × Nat)) (M : List Bool) : Seg ps M [] M := ⟨rfl, by simp, fun b => by simp, fun b h => (by cases h), fun a b h => (by cases h), fun x i h => (by cases h)⟩
theorem Seg.keeps {ps : List (Nat × Nat)} {M K : List Bool} {A : List Nat} (h : Seg ps M A K) {x : Nat} (hx : mk M x) : mk K x := (h.mks x).2 (.inl hx)
/-- What is left stays among itself. -/
theorem Seg.stays {ps : List (Nat × Nat)} {M K : List Bool} {A : List Nat} (h : Seg ps M A K) {x y : Nat} (hx : x ∈ A) (k : LdA ps M x y) : y ∈ A := by
  induction k with
  | refl _ => exact hx
  | step _ e n ih => exact ((h.mks _).1 (h.shut _ _ ih e)).elim (fun m => absurd m n) id
theorem Seg.append {ps : List (Nat × Nat)} {M K J : List Bool} {A B : List Nat} (h : Seg ps M A K) (k : Seg ps K B J) : Seg ps M (A ++ B) J := by
  refine ⟨k.len.trans h.len, ?_, fun b => ?_, fun b hb => ?_, fun a b ha hab => ?_, fun x i hx hi hl => ?_⟩
  · rw [List.nodup_append]
    refine ⟨h.nd, k.nd, fun a ha b hb e => ?_⟩
    subst e
    exact k.fresh a hb ((h.mks a).2 (.inr ha))
  · rw [k.mks, h.mks, List.mem_append, or_assoc]
  · rcases List.mem_append.1 hb with hb | hb
    · exact h.fresh b hb
    · exact fun hm => k.fresh b hb (h.keeps hm)
  · rcases List.mem_append.1 ha with ha | ha
    · exact k.keeps (h.shut a b ha hab)
    · exact k.shut a b ha hab
  · rcases List.mem_append.1 hx with hx | hx
    · have hi' := h.stays hx hl
      obtain ⟨y, h1, h2, h3⟩ := h.late x i hx hi' hl
      exact ⟨y, h1.left B, h2, h3⟩
    · rcases List.mem_append.1 hi with hi | hi
      · exact ⟨x, .cross hi hx, .refl hl.fst, .refl hl.fst⟩
      · have hl' : LdA ps K x i := hl.past (S := fun z => z ∈ A) (fun z hz => (h.mks z).1 hz) (fun z w hz hzw hn => ((h.mks w).1 (h.shut z w hz hzw)).elim (fun m => absurd m hn) id) (fun hA => k.fresh i hi ((h.mks i).2 (.inr hA)))
        obtain ⟨y, h1, h2, h3⟩ := k.late x i hx hi hl'
        exact ⟨y, h1.right A, h2.mono fun _ => h.keeps, h3.mono fun _ => h.keeps⟩
/-- A node is left behind what it leads to. -/
theorem Seg.node {ps : List (Nat × Nat)} {M K : List Bool} {A : List Nat} {i : Nat} (hi : i < M.length) (hm : ¬ mk M i) (h : Seg ps (M.set i true) A K) (hk : ∀ b, (i, b) ∈ ps → mk K b) (hA : ∀ b ∈ A, LdA ps M i b) : Seg ps M (A ++ [i]) K := by
  have hiK : mk K i := h.keeps ((mk_set hi).2 (.inl rfl))
  refine ⟨by rw [h.len, List.length_set], ?_, fun b => ?_, fun b hb => ?_, fun a b ha hab => ?_, fun x j hx hj hl => ?_⟩
  · rw [List.nodup_append]
    refine ⟨h.nd, by simp, fun a ha b hb e => ?_⟩
    rw [List.mem_singleton] at hb
    subst e hb
    exact h.fresh a ha ((mk_set hi).2 (.inl rfl))
  · rw [h.mks, mk_set hi, List.mem_append, List.mem_singleton]
    constructor
    · rintro ((e | e) | e)
      · exact .inr (.inr e)
      · exact .inl e
      · exact .inr (.inl e)
    · rintro (e | e | e)
      · exact .inl (.inr e)
      · exact .inr e
      · exact .inl (.inl e)
  · rcases List.mem_append.1 hb with hb | hb
    · exact fun e => h.fresh b hb ((mk_set hi).2 (.inr e))
    · rw [List.mem_singleton] at hb
      subst hb
      exact hm
  · rcases List.mem_append.1 ha with ha | ha
    · exact h.shut a b ha hab
    · rw [List.mem_singleton] at ha
      subst ha
      exact hk b hab
  · by_cases hxi : LdA ps M x i
    · refine ⟨i, ?_, hxi, ?_⟩
      · rcases List.mem_append.1 hj with hj | hj
        · exact .cross hj (by simp)
        · rw [List.mem_singleton] at hj
          subst hj
          exact .self (by simp)
      · rcases List.mem_append.1 hx with hx | hx
        · exact hA x hx
        · rw [List.mem_singleton] at hx
          subst hx
          exact .refl hm
    · rcases List.mem_append.1 hx with hx | hx
      · have hns : ∀ z, LdA ps M x z → z ≠ i := fun z hz e => hxi (e ▸ hz)
        have hl' : LdA ps (M.set i true) x j := by
          induction hl with
          | refl h => exact .refl fun e => ((mk_set hi).1 e).elim (fun e => hns _ (.refl h) e) h
          | step h1 e n ih =>
            rename_i b c
            have hbA : b ∈ A := by
              have : LdA ps M x b := h1
              have hbm : b ∈ A ++ [i] ∨ b ∉ A := by by_cases hb : b ∈ A <;> simp [hb]
              refine Classical.byContradiction fun hb => ?_
              have key : ∀ {z}, LdA ps M x z → z ∈ A := by
                intro z hz
                induction hz with
                | refl _ => exact hx
                | step h2 e2 n2 ih2 =>
                  refine ((h.mks _).1 (h.shut _ _ (ih2) e2)).elim (fun m => ?_) id
                  rcases (mk_set hi).1 m with m | m
                  · exact absurd m (hns _ (.step h2 e2 n2))
                  · exact absurd m n2
              exact hb (key this)
            exact .step (ih (List.mem_append_left _ hbA)) e fun hc => ((mk_set hi).1 hc).elim (fun hc => hns _ (.step h1 e n) hc) n
        have hjA := h.stays hx hl'
        obtain ⟨y, h1, h2, h3⟩ := h.late x j hx hjA hl'
        exact ⟨y, h1.left _, h2.mono fun z hz => (mk_set hi).2 (.inr hz), h3.mono fun z hz => (mk_set hi).2 (.inr hz)⟩
      · rw [List.mem_singleton] at hx
        subst hx
        exact absurd (.refl hm) hxi
/-- A visit of i. -/
structure Vis (ps : List (Nat × Nat)) (M : List Bool) (i : Nat) (new : List Nat) (K : List Bool) : Prop where
  made ::
  seg : Seg ps M new K
  own : mk K i
  way : ∀ b ∈ new, LdA ps M i b
theorem Vis.done {ps : List (Nat × Nat)} {M : List Bool} {i : Nat} (h : mk M i) : Vis ps M i [] M := ⟨.refl _ _, h, fun b hb => (by cases hb)⟩
/-- All that i leads to, past what was marked, is left. -/
theorem Vis.all {ps : List (Nat × Nat)} {M K : List Bool} {i : Nat} {new : List Nat} (h : Vis ps M i new K) (b : Nat) : b ∈ new ↔ LdA ps M i b :=
  ⟨h.way b, fun k => h.seg.stays (((h.seg.mks i).1 h.own).elim (fun m => absurd m k.fst) id) k⟩
/-- The kids of i, the first of them. -/
structure Kids (ps : List (Nat × Nat)) (M : List Bool) (i : Nat) (kids : List Nat) (new : List Nat) (K : List Bool) : Prop where
  made ::
  seg : Seg ps (M.set i true) new K
  met : ∀ j ∈ kids, mk K j
  way : ∀ b ∈ new, LdA ps M i b
theorem Kids.first (ps : List (Nat × Nat)) (M : List Bool) (i : Nat) : Kids ps M i [] [] (M.set i true) := ⟨.refl _ _, fun j h => (by cases h), fun j h => (by cases h)⟩
theorem Kids.next {ps : List (Nat × Nat)} {M K J : List Bool} {i j : Nat} {kids A B : List Nat} (hi : i < M.length) (hm : ¬ mk M i) (hj : (i, j) ∈ ps) (h : Kids ps M i kids A K) (k : Vis ps K j B J) : Kids ps M i (kids ++ [j]) (A ++ B) J := by
  refine ⟨h.seg.append k.seg, fun x hx => ?_, fun b hb => ?_⟩
  · rcases List.mem_append.1 hx with hx | hx
    · exact k.seg.keeps (h.met x hx)
    · rw [List.mem_singleton] at hx
      subst hx
      exact k.own
  · rcases List.mem_append.1 hb with hb | hb
    · exact h.way b hb
    · have hw := k.way b hb
      have hmono : ∀ x, mk M x → mk K x := fun x hx => h.seg.keeps ((mk_set hi).2 (.inr hx))
      exact (LdA.step (.refl hm) hj fun e => hw.fst (hmono _ e)).trans (hw.mono hmono)
theorem Kids.end {ps : List (Nat × Nat)} {M K : List Bool} {i : Nat} {kids A : List Nat} (hi : i < M.length) (hm : ¬ mk M i) (hk : ∀ b, (i, b) ∈ ps → b ∈ kids) (h : Kids ps M i kids A K) : Vis ps M i (A ++ [i]) K :=
  ⟨h.seg.node hi hm (fun b hb => h.met b (hk b hb)) h.way, h.seg.keeps ((mk_set hi).2 (.inl rfl)), fun b hb => by
    rcases List.mem_append.1 hb with hb | hb
    · exact h.way b hb
    · rw [List.mem_singleton] at hb
      subst hb
      exact .refl hm⟩
theorem fcnt_le {M K : List Bool} (hl : K.length = M.length) (h : ∀ x, mk M x → mk K x) : fcnt K ≤ fcnt M := by
  induction M generalizing K with
  | nil =>
    cases K with
    | nil => exact Nat.le_refl _
    | cons _ _ => simp at hl
  | cons x r ih =>
    cases K with
    | nil => simp at hl
    | cons y q =>
      have hq := ih (K := q) (by simpa using hl) fun z hz => by
        have := h (z + 1) (by simpa [mk] using hz)
        simpa [mk] using this
      have h0 := h 0
      unfold fcnt at *
      rw [List.countP_cons, List.countP_cons]
      cases x <;> cases y <;> simp_all [mk] <;> omega
theorem Seg.fcnt {ps : List (Nat × Nat)} {M K : List Bool} {A : List Nat} (h : Seg ps M A K) : fcnt K ≤ fcnt M := fcnt_le h.len fun _ => h.keeps

end Go.Proofs.Ytneehdjaaofjaaa
