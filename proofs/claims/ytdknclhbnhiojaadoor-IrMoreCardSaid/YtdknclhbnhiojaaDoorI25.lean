/- What a program that may be has. -/
import Derived.Test.YtdknclhbnhiojaaDoorI22
namespace Go.Proofs.YtdknclhbnhiojaaDoor
open Go.RowKit
structure GoodI (f : Fun') (c : Nat) (i : Ins) : Prop where
  reads : ∀ x ∈ readsI i, 0 ≤ x ∧ x < f.regs
  wlo : -1 ≤ wrI i
  whi : wrI i < f.regs
  next : ∀ x ∈ nextI i ((c : Int) + 1), 0 ≤ x ∧ x < (f.code.length : Int)
theorem inB_iff {n m : Int} (h : inB n m = true) : 0 ≤ n ∧ n < m := of_decide_eq_true h
theorem rowL_range {op : Int} (h : rowL op ≠ []) : 1 ≤ op ∧ op ≤ 20 := by
  by_cases h0 : op < 1 ∨ 20 < op
  · exact absurd (rowL_em h0) h
  · omega
theorem insE_zero {p : Prg} {f : Fun'} {c : Nat} {i : Ins} (h : insE p f c i = 0) : rowL i.op ≠ [] ∧ opsB p f i = true ∧ allB f.code.length (nextI i ((c : Int) + 1)) = true := by
  unfold insE at h
  by_cases h1 : rowL i.op = []
  · rw [if_pos h1] at h; cases h
  · rw [if_neg h1] at h
    cases ho : opsB p f i
    · rw [ho] at h; cases h
    · cases hn : allB f.code.length (nextI i ((c : Int) + 1))
      · rw [ho, hn] at h; cases h
      · exact ⟨h1, rfl, rfl⟩
theorem good_of {p : Prg} {f : Fun'} {c : Nat} {i : Ins} (hr : 0 ≤ f.regs) (h : insE p f c i = 0) : GoodI f c i := by
  obtain ⟨h1, h2, h3⟩ := insE_zero h
  obtain ⟨o1, o2⟩ := rowL_range h1
  rw [ops_split p f i o1 o2, Bool.and_eq_true, Bool.and_eq_true] at h2
  have hw : wrI i = -1 ∨ (0 ≤ wrI i ∧ wrI i < f.regs) := by
    unfold wrI
    cases hb : wrB i.op
    · exact .inl rfl
    · refine .inr ?_
      have := h2.2.1
      rw [hb] at this
      exact inB_iff this
  refine ⟨fun x hx => inB_iff (List.all_eq_true.1 h2.1 x hx), by omega, by omega, fun x hx => inB_iff (List.all_eq_true.1 h3 x hx)⟩
theorem bodyF_zero {p : Prg} {f : Fun'} : ∀ (l : List Ins) (k : Nat), (bodyF p f k l).2 = 0 → ∀ j i, l[j]? = some i → insE p f (k + j) i = 0
  | [], _, _, _, _, h => by simp at h
  | i :: r, k, h, j, x, hx => by
    have h' : (if insE p f k i = 0 then bodyF p f (k + 1) r else ((k : Int), insE p f k i)).2 = 0 := h
    by_cases hi : insE p f k i = 0
    · rw [if_pos hi] at h'
      rcases j with _ | j
      · simp at hx; subst hx; exact hi
      · have := bodyF_zero r (k + 1) h' j x (by simpa using hx)
        rw [show k + (j + 1) = k + 1 + j by omega]
        exact this
    · rw [if_neg hi] at h'; exact absurd h' hi
theorem fnsP_zero {p : Prg} : ∀ (l : List Fun') (k : Nat), (fnsP p k l).2.2 = 0 → ∀ j f, l[j]? = some f → (funE p (k + j) f).2 = 0
  | [], _, _, _, _, h => by simp at h
  | f :: r, k, h, j, x, hx => by
    have h' : (if (funE p k f).2 = 0 then fnsP p (k + 1) r else ((k : Int), funE p k f)).2.2 = 0 := h
    by_cases hi : (funE p k f).2 = 0
    · rw [if_pos hi] at h'
      rcases j with _ | j
      · simp at hx; subst hx; exact hi
      · have := fnsP_zero r (k + 1) h' j x (by simpa using hx)
        rw [show k + (j + 1) = k + 1 + j by omega]
        exact this
    · rw [if_neg hi] at h'; exact absurd h' hi
theorem funE_zero {p : Prg} {k : Nat} {f : Fun'} (h : (funE p k f).2 = 0) : headF p k f = 0 ∧ (bodyF p f 0 f.code).2 = 0 := by
  unfold funE at h
  by_cases hh : headF p k f = 0
  · rw [if_pos hh] at h; exact ⟨hh, h⟩
  · rw [if_neg hh] at h; exact absurd h hh
theorem headF_zero {p : Prg} {k : Nat} {f : Fun'} (h : headF p k f = 0) : bigB f = false ∧ f.locals.all (locB p k) = true := by
  unfold headF at h
  cases hb : bigB f
  · refine ⟨rfl, ?_⟩
    rw [hb] at h
    cases hl : f.locals.all (locB p k)
    · rw [if_neg (by decide), locE_no hl] at h; cases h
    · rfl
  · rw [hb] at h; cases h
/-- A program that may be. -/
structure GoodP (p : Prg) : Prop where
  nf : p.fns.length ≤ 200
  ns : p.sites.length ≤ 600
  main : inB p.main p.fns.length = true
  each : eachB p = true
  fns : ∀ j f, p.fns[j]? = some f → bigB f = false ∧ f.locals.all (locB p j) = true ∧ ∀ c i, f.code[c]? = some i → insE p f c i = 0
theorem goodP_of {p : Prg} (h : (checkP p).2.2 = 0) : GoodP p := by
  unfold checkP at h
  by_cases h1 : 200 < p.fns.length ∨ 600 < p.sites.length
  · rw [if_pos h1] at h; cases h
  · rw [if_neg h1] at h
    by_cases h2 : (inB p.main p.fns.length && eachB p) = true
    · rw [if_pos h2] at h
      rw [Bool.and_eq_true] at h2
      refine ⟨by omega, by omega, h2.1, h2.2, fun j f hj => ?_⟩
      have h3 := fnsP_zero p.fns 0 h j f hj
      rw [Nat.zero_add] at h3
      obtain ⟨h4, h5⟩ := funE_zero h3
      obtain ⟨h6, h7⟩ := headF_zero h4
      refine ⟨h6, h7, fun c i hc => ?_⟩
      have := bodyF_zero f.code 0 h5 c i hc
      rwa [Nat.zero_add] at this
    · rw [if_neg h2] at h; cases h
theorem small_of {f : Fun'} (h : bigB f = false) : 0 < f.code.length ∧ f.code.length ≤ 4000 ∧ f.regs ≤ 4000 ∧ f.params ≤ f.regs ∧ 0 ≤ f.params := by
  have := of_decide_eq_false h
  omega
theorem bodyF_all {p : Prg} {f : Fun'} : ∀ (l : List Ins) (k : Nat), (∀ j i, l[j]? = some i → insE p f (k + j) i = 0) → bodyF p f k l = (0, 0)
  | [], _, _ => rfl
  | i :: r, k, h => by
    show (if insE p f k i = 0 then bodyF p f (k + 1) r else ((k : Int), insE p f k i)) = (0, 0)
    rw [if_pos (show insE p f k i = 0 from h 0 i rfl)]
    exact bodyF_all r (k + 1) fun j x hx => by rw [show k + 1 + j = k + (j + 1) by omega]; exact h (j + 1) x hx
theorem fnsP_all {p : Prg} : ∀ (l : List Fun') (k : Nat), (∀ j f, l[j]? = some f → funE p (k + j) f = (0, 0)) → fnsP p k l = (0, 0, 0)
  | [], _, _ => rfl
  | f :: r, k, h => by
    show (if (funE p k f).2 = 0 then fnsP p (k + 1) r else ((k : Int), funE p k f)) = (0, 0, 0)
    rw [if_pos (by rw [show funE p k f = (0, 0) from h 0 f rfl])]
    exact fnsP_all r (k + 1) fun j x hx => by rw [show k + 1 + j = k + (j + 1) by omega]; exact h (j + 1) x hx
/-- .. and back. -/
theorem GoodP.check {p : Prg} (h : GoodP p) : checkP p = (0, 0, 0) := by
  unfold checkP
  have := h.nf
  have := h.ns
  rw [if_neg (by omega), if_pos (by rw [h.main, h.each]; rfl)]
  refine fnsP_all _ _ fun j f hj => ?_
  obtain ⟨h1, h2, h3⟩ := h.fns j f hj
  rw [Nat.zero_add]
  have e : headF p j f = 0 := by unfold headF; rw [h1]; exact locE_yes h2
  unfold funE
  rw [if_pos e]
  exact bodyF_all _ _ fun c i hc => by rw [Nat.zero_add]; exact h3 c i hc

end Go.Proofs.YtdknclhbnhiojaaDoor
