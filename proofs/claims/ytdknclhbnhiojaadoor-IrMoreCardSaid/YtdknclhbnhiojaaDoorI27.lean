/- IrMore, plain: one register and a return more keep a program well. -/
import Derived.Test.YtdknclhbnhiojaaDoorI25
namespace Go.Proofs.YtdknclhbnhiojaaDoor
open Go.RowKit
def retI : Ins := ⟨19, -1, 0, 0, 0, 0, ⟨#[]⟩, none, 0, 0, []⟩
def moreF (f : Fun') (A : Option Addr) (c : Nat) : Fun' := ⟨f.name, f.regs + 1, f.params, f.la, f.lc, f.locals, A, c, f.code ++ [retI]⟩
def moreP (p : Prg) (n : Nat) (g : Fun') (A : Option Addr) (c : Nat) : Prg := ⟨p.sa, p.sc, p.sites, A, c, p.fns.set n g, p.main⟩
theorem inB_mono {x a b : Int} (hab : a ≤ b) (h : inB x a = true) : inB x b = true := by
  have := inB_iff h
  exact decide_eq_true (by omega)
theorem allB_mono {a b : Int} {l : List Int} (hab : a ≤ b) (h : allB a l = true) : allB b l = true := List.all_eq_true.2 fun x hx => inB_mono hab (List.all_eq_true.1 h x hx)
section
variable {p : Prg} {n : Nat} {f g : Fun'} {A : Option Addr} {c : Nat}
theorem moreP_kind (x : Int) : kindP (moreP p n g A c) x = kindP p x := rfl
theorem moreP_loc (j : Nat) (x : Int) : locB (moreP p n g A c) j x = locB p j x := rfl
theorem moreP_par (hn : p.fns[n]? = some f) (hg : g.params = f.params) (x : Int) : parOf (moreP p n g A c) x = parOf p x := by
  unfold parOf moreP
  by_cases hx : 0 ≤ x
  · rw [if_pos hx, if_pos hx]
    show (((p.fns.set n g)[x.toNat]?).map (·.params)).getD 0 = _
    by_cases e : n = x.toNat
    · subst e
      have hl : x.toNat < p.fns.length := (List.getElem?_eq_some_iff.1 hn).1
      rw [List.getElem?_set_self hl, hn]
      simp [hg]
    · rw [List.getElem?_set_ne e]
  · rw [if_neg hx, if_neg hx]
theorem moreP_len : (moreP p n g A c).fns.length = p.fns.length := List.length_set
theorem moreP_fn (hn : p.fns[n]? = some f) (hg : g.params = f.params) (i : Ins) : fnB (moreP p n g A c) i = fnB p i := by
  unfold fnB
  rw [moreP_len, moreP_par hn hg]
theorem moreP_opd (hn : p.fns[n]? = some f) (hg : g.params = f.params) (f' : Fun') (i : Ins) (x : Int) : opdB (moreP p n g A c) f' i x = opdB p f' i x := by
  unfold opdB
  rw [moreP_kind, moreP_kind, moreP_fn hn hg]
theorem moreP_ops (hn : p.fns[n]? = some f) (hg : g.params = f.params) (f' : Fun') (i : Ins) : opsB (moreP p n g A c) f' i = opsB p f' i := by
  unfold opsB opsS
  refine congrArg (fun q => (rowL i.op).all q) (funext fun x => ?_)
  unfold letB
  rw [moreP_opd hn hg]
theorem moreP_ins (hn : p.fns[n]? = some f) (hg : g.params = f.params) (f' : Fun') (k : Nat) (i : Ins) : insE (moreP p n g A c) f' k i = insE p f' k i := by
  unfold insE
  rw [moreP_ops hn hg]
theorem opd_mono {f' : Fun'} {i : Ins} {x : Int} (hl : f.code.length ≤ f'.code.length) (h : opdB p f i x = true) : opdB p f' i x = true := by
  unfold opdB at h ⊢
  repeat' split at h
  all_goals (simp_all)
  all_goals (exact inB_mono (by omega) h)
theorem let_mono {f' : Fun'} {i : Ins} {x : Int} (hr : f.regs ≤ f'.regs) (hl : f.code.length ≤ f'.code.length) (h : letB p f i x = true) : letB p f' i x = true := by
  unfold letB at h ⊢
  rw [Bool.and_eq_true, Bool.and_eq_true, Bool.or_eq_true] at h ⊢
  exact ⟨allB_mono hr h.1, opd_mono hl h.2.1, h.2.2.imp id (inB_mono hr)⟩
theorem ins_mono {f' : Fun'} {k : Nat} {i : Ins} (hr : f.regs ≤ f'.regs) (hl : f.code.length ≤ f'.code.length) (h : insE p f k i = 0) : insE p f' k i = 0 := by
  obtain ⟨h1, h2, h3⟩ := insE_zero h
  have h4 : opsB p f' i = true := List.all_eq_true.2 fun x hx => let_mono hr hl (List.all_eq_true.1 h2 x hx)
  have h5 : allB f'.code.length (nextI i ((k : Int) + 1)) = true := allB_mono (by omega) h3
  unfold insE
  rw [if_neg h1, h4, h5]
  rfl
theorem ret_ins (f' : Fun') (k : Nat) : insE p f' k retI = 0 := by
  have h1 : rowL retI.op = [114] := rfl
  have h4 : opsB p f' retI = true := by
    unfold opsB opsS
    rw [h1]
    simp [letB, readL, opdB, allB, retI]
  have h5 : nextI retI ((k : Int) + 1) = [] := rfl
  unfold insE
  rw [h4, h5, if_neg (by rw [h1]; simp)]
  rfl
theorem GoodP.more (h : GoodP p) (hn : p.fns[n]? = some f) (hl : f.code.length < 4000) (hr : f.regs < 4000) (A' : Option Addr) (c' : Nat) : GoodP (moreP p n (moreF f A' c') A c) := by
  have hln : n < p.fns.length := (List.getElem?_eq_some_iff.1 hn).1
  have hpar : (moreF f A' c').params = f.params := rfl
  refine ⟨by rw [moreP_len]; exact h.nf, h.ns, by rw [moreP_len]; exact h.main, ?_, fun j x hx => ?_⟩
  · have h1 := h.each
    unfold eachB sitesB at h1 ⊢
    rw [moreP_len]
    exact h1
  · have hx' : (p.fns.set n (moreF f A' c'))[j]? = some x := hx
    by_cases e : n = j
    · subst e
      rw [List.getElem?_set_self hln] at hx'
      obtain rfl := Option.some.inj hx'
      obtain ⟨h1, h2, h3⟩ := h.fns n f hn
      have hs := small_of h1
      have hcl : (moreF f A' c').code.length = f.code.length + 1 := by show (f.code ++ [retI]).length = _; simp
      refine ⟨?_, h2, fun k i hi => ?_⟩
      · refine decide_eq_false ?_
        rw [hcl]
        show ¬ (f.code.length + 1 = 0 ∨ 4000 < f.code.length + 1 ∨ 4000 < f.regs + 1 ∨ f.regs + 1 < f.params ∨ f.params < 0)
        omega
      · rw [moreP_ins hn hpar]
        have hi' : (f.code ++ [retI])[k]? = some i := hi
        by_cases hk : k < f.code.length
        · rw [List.getElem?_append_left hk] at hi'
          exact ins_mono (by show f.regs ≤ f.regs + 1; omega) (by rw [hcl]; omega) (h3 k i hi')
        · rw [List.getElem?_append_right (by omega)] at hi'
          have : i = retI := by
            rcases hd : k - f.code.length with _ | m
            · rw [hd] at hi'; simpa using hi'.symm
            · rw [hd] at hi'; simp at hi'
          subst this
          exact ret_ins _ _
    · rw [List.getElem?_set_ne e] at hx'
      obtain ⟨h1, h2, h3⟩ := h.fns j x hx'
      exact ⟨h1, h2, fun k i hi => by rw [moreP_ins hn hpar]; exact h3 k i hi⟩
end

end Go.Proofs.YtdknclhbnhiojaaDoor
