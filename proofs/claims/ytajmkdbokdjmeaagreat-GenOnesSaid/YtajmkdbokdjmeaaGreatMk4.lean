/- Merged: Gn1, I27d, I29d, Gn2, I32d, Gn3, Gn4. -/
import Derived.Test.YtajmkdbokdjmeaaGreatMk3
import Derived.Deep.RegionHeld3
import Derived.Laws.EntriesVeiled
import Derived.Deep.DeepCutAuto
/- Constraints, in plain words. -/
namespace Go.Proofs.YtajmkdbokdjmeaaGreat
open Go.RowKit
structure Kon where
  made ::
  kind : Int
  a : Int
  b : Int
  n : Int
  site : Int
  off : Int
  aa : Option Addr
  an : Nat
  ac : Nat
  args : List Int
  fn : Int
  pc : Int
def konC (c : Kon) : Array Value := #[.int .i64 c.kind, .int .i64 c.a, .int .i64 c.b, .int .i64 c.n, .int .i64 c.site, .int .i64 c.off, .slice c.aa c.an c.ac, .int .i64 c.fn, .int .i64 c.pc]
def konV (c : Kon) : Value := .agg (konC c)
/-- A constraint without where its arguments lie. -/
def bare (c : Kon) : Kon := ⟨c.kind, c.a, c.b, c.n, c.site, c.off, none, 0, 0, c.args, c.fn, c.pc⟩
def regS : List Fun' → Int
  | [] => 0
  | f :: r => f.regs + 1 + regS r
theorem regS_app (a b : List Fun') : regS (a ++ b) = regS a + regS b := by
  induction a with
  | nil => show regS b = 0 + regS b; omega
  | cons f r ih => show f.regs + 1 + regS (r ++ b) = f.regs + 1 + regS r + regS b; omega
/-- A function's first variable. -/
def fstK (fs : List Fun') (k : Nat) : Int := regS (fs.take k)
theorem fstK_zero (fs : List Fun') : fstK fs 0 = 0 := rfl
theorem fstK_succ {fs : List Fun'} {k : Nat} {f : Fun'} (h : fs[k]? = some f) : fstK fs (k + 1) = fstK fs k + f.regs + 1 := by
  obtain ⟨hk, e⟩ := List.getElem?_eq_some_iff.1 h
  unfold fstK
  rw [List.take_succ_eq_append_getElem hk, regS_app, e]
  show _ + (f.regs + 1 + 0) = _
  omega
/-- The functions are small. -/
def SmallF (fs : List Fun') : Prop := fs.length ≤ 200 ∧ ∀ f ∈ fs, 0 ≤ f.regs ∧ f.regs ≤ 4000 ∧ f.code.length ≤ 4000
theorem regS_bound : ∀ (l : List Fun'), (∀ f ∈ l, 0 ≤ f.regs ∧ f.regs ≤ 4000 ∧ f.code.length ≤ 4000) → 0 ≤ regS l ∧ regS l ≤ 4001 * (l.length : Int)
  | [], _ => ⟨Int.le_refl _, Int.le_refl _⟩
  | f :: r, h => by
    have h1 := regS_bound r fun x hx => h x (List.mem_cons_of_mem _ hx)
    have h2 := h f (List.mem_cons_self ..)
    show 0 ≤ f.regs + 1 + regS r ∧ f.regs + 1 + regS r ≤ _
    rw [List.length_cons]
    omega
theorem SmallF.fst {fs : List Fun'} (h : SmallF fs) (k : Nat) : 0 ≤ fstK fs k ∧ fstK fs k ≤ 800200 := by
  have h1 := regS_bound (fs.take k) fun f hf => h.2 f (List.mem_of_mem_take hf)
  have h2 := h.1
  have h3 : (fs.take k).length ≤ fs.length := by rw [List.length_take]; omega
  unfold fstK
  omega
def wz (n : Int) : Int := IntKind.i64.wrap n
def twoK (k a b n : Int) : Kon := ⟨k, a, b, n, 0, 0, none, 0, 0, [], 0, 0⟩
def baseK (a s : Int) : Kon := ⟨1, a, 0, 0, s, 0, none, 0, 0, [], 0, 0⟩
def callK (a b : Int) (l : List Int) : Kon := ⟨8, a, b, 0, 0, 0, none, 0, 0, l, 0, 0⟩
def atK (fn pc : Nat) (c : Kon) : Kon := ⟨c.kind, c.a, c.b, c.n, c.site, c.off, c.aa, c.an, c.ac, c.args, fn, pc⟩
/-- The variable of what a function tells. -/
def tellK (fs : List Fun') (k : Nat) : Int := fstK fs (k + 1) - 1
/-- The copies of a call's first arguments. -/
def argV (t : Int) (M : List Int) (q : Nat) : List Kon := (List.range q).map fun (j : Nat) => twoK 2 (t + (j : Int)) (M[j]?.getD 0) 0
theorem argV_succ {t : Int} {M : List Int} {q : Nat} {x : Int} (h : M[q]? = some x) : argV t M (q + 1) = argV t M q ++ [twoK 2 (t + (q : Int)) x 0] := by
  unfold argV
  rw [List.range_succ, List.map_append]
  simp [h]
theorem argV_len (t : Int) (M : List Int) (q : Nat) : (argV t M q).length = q := by simp [argV]
def callV (t tell va : Int) (M : List Int) : List Kon := argV t M M.length ++ [twoK 2 va tell 0]
def consI (fs : List Fun') (fn : Nat) (i : Ins) : List Kon :=
  if i.op = 2 then [baseK (wz (fstK fs fn + i.a)) i.b]
  else if i.op = 13 then [baseK (wz (fstK fs fn + i.a)) i.n]
  else if i.op = 3 then (if -4096 ≤ i.n ∧ i.n ≤ 4096 then [twoK 3 (wz (fstK fs fn + i.a)) (wz (fstK fs fn + i.b)) i.n] else [])
  else if i.op = 4 then (if 0 ≤ i.n ∧ i.n ≤ 4096 then [twoK 4 (wz (fstK fs fn + i.a)) (wz (fstK fs fn + i.b)) i.n] else [])
  else if i.op = 5 then (if i.sign.toList = [43] then [twoK 4 (wz (fstK fs fn + i.a)) (wz (fstK fs fn + i.b)) 1, twoK 4 (wz (fstK fs fn + i.a)) (wz (fstK fs fn + i.c)) 1]
    else if i.sign.toList = [45] then [twoK 4 (wz (fstK fs fn + i.a)) (wz (fstK fs fn + i.b)) 1] else [])
  else if i.op = 7 then (if i.w = 1 ∨ i.w = 8 then [twoK 2 (wz (fstK fs fn + i.a)) (wz (fstK fs fn + i.b)) 0] else [])
  else if i.op = 8 then (if i.w = 1 ∨ i.w = 8 then [twoK 5 (wz (fstK fs fn + i.a)) (wz (fstK fs fn + i.b)) i.w] else [])
  else if i.op = 9 then (if i.w = 1 ∨ i.w = 8 then [twoK 6 (wz (fstK fs fn + i.a)) (wz (fstK fs fn + i.b)) i.w] else [])
  else if i.op = 10 then [twoK 7 (wz (fstK fs fn + i.a)) (wz (fstK fs fn + i.b)) i.n]
  else if i.op = 11 then [twoK 7 (wz (fstK fs fn + i.a)) (wz (fstK fs fn + i.b)) (-1)]
  else if i.op = 15 then callV (fstK fs i.n.toNat) (tellK fs i.n.toNat) (wz (fstK fs fn + i.a)) (i.args.map fun x => wz (fstK fs fn + x))
  else if i.op = 16 then [callK (wz (fstK fs fn + i.a)) (wz (fstK fs fn + i.b)) (i.args.map fun x => wz (fstK fs fn + x))]
  else if i.op = 19 then (if i.a = -1 then [] else [twoK 2 (tellK fs fn) (wz (fstK fs fn + i.a)) 0])
  else []
/-- The constraints of a function's first instructions. -/
def codeK (fs : List Fun') (fn : Nat) (l : List Ins) (c : Nat) : List Kon := (List.range c).flatMap fun q => match l[q]? with | some i => (consI fs fn i).map (atK fn q) | none => []
def genK (fs : List Fun') (k : Nat) : List Kon := (List.range k).flatMap fun j => match fs[j]? with | some f => codeK fs j f.code f.code.length | none => []
theorem codeK_succ {fs : List Fun'} {fn : Nat} {l : List Ins} {c : Nat} {i : Ins} (h : l[c]? = some i) : codeK fs fn l (c + 1) = codeK fs fn l c ++ (consI fs fn i).map (atK fn c) := by
  unfold codeK
  rw [List.range_succ, List.flatMap_append]
  simp [h]
theorem genK_succ {fs : List Fun'} {k : Nat} {f : Fun'} (h : fs[k]? = some f) : genK fs (k + 1) = genK fs k ++ codeK fs k f.code f.code.length := by
  unfold genK
  rw [List.range_succ, List.flatMap_append]
  simp [h]
/-- What an instruction of a program that may be has, as far as constraints go. -/
def CallOk (n : Nat) (i : Ins) : Prop := i.op = 15 → 0 ≤ i.n ∧ i.n < (n : Int)

end Go.Proofs.YtajmkdbokdjmeaaGreat
/- IrMore, plain: one register and a return more keep a program well. -/
namespace Go.Proofs.YtajmkdbokdjmeaaGreat
open Go.RowKit
def retI : Ins := ⟨19, -1, 0, 0, 0, 0, ⟨#[]⟩, none, 0, 0, []⟩
def moreF (f : Fun') (A : Option Addr) (c : Nat) : Fun' := ⟨f.name, f.regs + 1, f.params, f.la, f.lc, f.locals, A, c, f.code ++ [retI]⟩
def moreP (p : Prg) (n : Nat) (g : Fun') (A : Option Addr) (c : Nat) : Prg := ⟨p.sa, p.sc, p.sites, A, c, p.fns.set n g, p.main⟩
theorem inB_mono {x a b : Int} (hab : a ≤ b) (h : inB x a = true) : inB x b = true := by
  have := inB_iff h
  exact decide_eq_true (by omega)
theorem allB_mono {a b : Int} {l : List Int} (hab : a ≤ b) (h : allB a l = true) : allB b l = true := List.all_eq_true.2 fun x hx => inB_mono hab (List.all_eq_true.1 h x hx)
section
variable {p : Prg} {n : Nat} {f g : Fun'} {A : Option Addr} {c : Nat}
theorem moreP_kind (x : Int) : kindP (moreP p n g A c) x = kindP p x := rfl
theorem moreP_loc (j : Nat) (x : Int) : locB (moreP p n g A c) j x = locB p j x := rfl
theorem moreP_par (hn : p.fns[n]? = some f) (hg : g.params = f.params) (x : Int) : parOf (moreP p n g A c) x = parOf p x := by
  unfold parOf moreP
  by_cases hx : 0 ≤ x
  · rw [if_pos hx, if_pos hx]
    show (((p.fns.set n g)[x.toNat]?).map (·.params)).getD 0 = _
    by_cases e : n = x.toNat
    · subst e
      have hl : x.toNat < p.fns.length := (List.getElem?_eq_some_iff.1 hn).1
      rw [List.getElem?_set_self hl, hn]
      simp [hg]
    · rw [List.getElem?_set_ne e]
  · rw [if_neg hx, if_neg hx]
theorem moreP_len : (moreP p n g A c).fns.length = p.fns.length := List.length_set
theorem moreP_fn (hn : p.fns[n]? = some f) (hg : g.params = f.params) (i : Ins) : fnB (moreP p n g A c) i = fnB p i := by
  unfold fnB
  rw [moreP_len, moreP_par hn hg]
theorem moreP_opd (hn : p.fns[n]? = some f) (hg : g.params = f.params) (f' : Fun') (i : Ins) (x : Int) : opdB (moreP p n g A c) f' i x = opdB p f' i x := by
  unfold opdB
  rw [moreP_kind, moreP_kind, moreP_fn hn hg]
theorem moreP_ops (hn : p.fns[n]? = some f) (hg : g.params = f.params) (f' : Fun') (i : Ins) : opsB (moreP p n g A c) f' i = opsB p f' i := by
  unfold opsB opsS
  refine congrArg (fun q => (rowL i.op).all q) (funext fun x => ?_)
  unfold letB
  rw [moreP_opd hn hg]
theorem moreP_ins (hn : p.fns[n]? = some f) (hg : g.params = f.params) (f' : Fun') (k : Nat) (i : Ins) : insE (moreP p n g A c) f' k i = insE p f' k i := by
  unfold insE
  rw [moreP_ops hn hg]
theorem opd_mono {f' : Fun'} {i : Ins} {x : Int} (hl : f.code.length ≤ f'.code.length) (h : opdB p f i x = true) : opdB p f' i x = true := by
  unfold opdB at h ⊢
  repeat' split at h
  all_goals (simp_all)
  all_goals (exact inB_mono (by omega) h)
theorem let_mono {f' : Fun'} {i : Ins} {x : Int} (hr : f.regs ≤ f'.regs) (hl : f.code.length ≤ f'.code.length) (h : letB p f i x = true) : letB p f' i x = true := by
  unfold letB at h ⊢
  rw [Bool.and_eq_true, Bool.and_eq_true, Bool.or_eq_true] at h ⊢
  exact ⟨allB_mono hr h.1, opd_mono hl h.2.1, h.2.2.imp id (inB_mono hr)⟩
theorem ins_mono {f' : Fun'} {k : Nat} {i : Ins} (hr : f.regs ≤ f'.regs) (hl : f.code.length ≤ f'.code.length) (h : insE p f k i = 0) : insE p f' k i = 0 := by
  obtain ⟨h1, h2, h3⟩ := insE_zero h
  have h4 : opsB p f' i = true := List.all_eq_true.2 fun x hx => let_mono hr hl (List.all_eq_true.1 h2 x hx)
  have h5 : allB f'.code.length (nextI i ((k : Int) + 1)) = true := allB_mono (by omega) h3
  unfold insE
  rw [if_neg h1, h4, h5]
  rfl
theorem ret_ins (f' : Fun') (k : Nat) : insE p f' k retI = 0 := by
  have h1 : rowL retI.op = [114] := rfl
  have h4 : opsB p f' retI = true := by
    unfold opsB opsS
    rw [h1]
    simp [letB, readL, opdB, allB, retI]
  have h5 : nextI retI ((k : Int) + 1) = [] := rfl
  unfold insE
  rw [h4, h5, if_neg (by rw [h1]; simp)]
  rfl
theorem GoodP.more (h : GoodP p) (hn : p.fns[n]? = some f) (hl : f.code.length < 4000) (hr : f.regs < 4000) (A' : Option Addr) (c' : Nat) : GoodP (moreP p n (moreF f A' c') A c) := by
  have hln : n < p.fns.length := (List.getElem?_eq_some_iff.1 hn).1
  have hpar : (moreF f A' c').params = f.params := rfl
  refine ⟨by rw [moreP_len]; exact h.nf, h.ns, by rw [moreP_len]; exact h.main, ?_, fun j x hx => ?_⟩
  · have h1 := h.each
    unfold eachB sitesB at h1 ⊢
    rw [moreP_len]
    exact h1
  · have hx' : (p.fns.set n (moreF f A' c'))[j]? = some x := hx
    by_cases e : n = j
    · subst e
      rw [List.getElem?_set_self hln] at hx'
      obtain rfl := Option.some.inj hx'
      obtain ⟨h1, h2, h3⟩ := h.fns n f hn
      have hs := small_of h1
      have hcl : (moreF f A' c').code.length = f.code.length + 1 := by show (f.code ++ [retI]).length = _; simp
      refine ⟨?_, h2, fun k i hi => ?_⟩
      · refine decide_eq_false ?_
        rw [hcl]
        show ¬ (f.code.length + 1 = 0 ∨ 4000 < f.code.length + 1 ∨ 4000 < f.regs + 1 ∨ f.regs + 1 < f.params ∨ f.params < 0)
        omega
      · rw [moreP_ins hn hpar]
        have hi' : (f.code ++ [retI])[k]? = some i := hi
        by_cases hk : k < f.code.length
        · rw [List.getElem?_append_left hk] at hi'
          exact ins_mono (by show f.regs ≤ f.regs + 1; omega) (by rw [hcl]; omega) (h3 k i hi')
        · rw [List.getElem?_append_right (by omega)] at hi'
          have : i = retI := by
            rcases hd : k - f.code.length with _ | m
            · rw [hd] at hi'; simpa using hi'.symm
            · rw [hd] at hi'; simp at hi'
          subst this
          exact ret_ins _ _
    · rw [List.getElem?_set_ne e] at hx'
      obtain ⟨h1, h2, h3⟩ := h.fns j x hx'
      exact ⟨h1, h2, fun k i hi => by rw [moreP_ins hn hpar]; exact h3 k i hi⟩
end

end Go.Proofs.YtajmkdbokdjmeaaGreat
/- Rows of structs: their cells, one behind the other; a row of the call's own. -/
namespace Go.Proofs.YtajmkdbokdjmeaaGreat
open Go.RowKit
/-- All cells of some structs. -/
def flatC {α : Type} (C : α → Array Value) (l : List α) : List Value := l.flatMap fun x => (C x).toList
theorem flat_len {α : Type} {C : α → Array Value} {m : Nat} (hm : ∀ x, (C x).size = m) : ∀ l : List α, (flatC C l).length = l.length * m
  | [] => by simp [flatC]
  | x :: r => by
    have h := flat_len hm r
    show ((C x).toList ++ flatC C r).length = _
    rw [List.length_append, h, Array.length_toList, hm, List.length_cons, Nat.add_mul]
    omega
theorem flat_at {α : Type} {C : α → Array Value} {m : Nat} (hm : ∀ x, (C x).size = m) : ∀ (l : List α) (j k : Nat), k < m → (flatC C l)[j * m + k]? = (l[j]?).bind fun x => (C x)[k]?
  | [], j, k, _ => by simp [flatC]
  | x :: r, j, k, hk => by
    show ((C x).toList ++ flatC C r)[j * m + k]? = _
    rcases j with _ | j
    · rw [Nat.zero_mul, Nat.zero_add, List.getElem?_append_left (by rw [Array.length_toList, hm]; exact hk)]
      simp
    · rw [List.getElem?_append_right (by rw [Array.length_toList, hm, Nat.add_mul]; omega), Array.length_toList, hm, show (j + 1) * m + k - m = j * m + k by rw [Nat.add_mul]; omega, flat_at hm r j k hk]
      simp
theorem flat_app {α : Type} (C : α → Array Value) (a b : List α) : flatC C (a ++ b) = flatC C a ++ flatC C b := List.flatMap_append
theorem StrAt.flat {α : Type} {C : α → Array Value} {m : Nat} (hm : ∀ x, (C x).size = m) {w : World} {ad : Addr} {l : List α} (h : StrAt C m w (some ad) l) : ∀ j u, (flatC C l)[j]? = some u → w.cell? (ad.add j) = some u := by
  intro j u hu
  have hj : j < l.length * m := by have := (List.getElem?_eq_some_iff.1 hu).1; rwa [flat_len hm] at this
  have hm0 : 0 < m := by rcases Nat.eq_zero_or_pos m with e | e; · subst e; omega
                         · exact e
  have hr : j % m < m := Nat.mod_lt _ hm0
  have hd : j = j / m * m + j % m := by have := Nat.div_add_mod j m; rw [Nat.mul_comm] at this; exact this.symm
  rcases h with rfl | ⟨ad', e, hc⟩
  · simp [flatC] at hu
  · obtain rfl := Option.some.inj e
    have hu' := hu
    rw [hd, flat_at hm _ _ _ hr] at hu'
    rcases hx : l[j / m]? with _ | x
    · rw [hx] at hu'; simp at hu'
    · rw [hx] at hu'
      rw [hd]
      exact hc _ x hx _ u (by simpa using hu')
theorem StrAt.of_own {α : Type} {C : α → Array Value} {m : Nat} (hm : ∀ x, (C x).size = m) {w : World} {base g c : Nat} {e : TypeId} {l : List α}
    (h : w.ownsRow base e m (.slice (some ⟨g, 0, none⟩) l.length c) l.length (flatC C l)) : StrAt C m w (some ⟨g, 0, none⟩) l := by
  refine .inr ⟨_, rfl, fun j x hx k u hu => ?_⟩
  have hk : k < m := by have := (Array.getElem?_eq_some_iff.1 hu).1; rwa [hm] at this
  have hj := (List.getElem?_eq_some_iff.1 hx).1
  have hjm : j * m + k < l.length * m := by
    have : (j + 1) * m ≤ l.length * m := Nat.mul_le_mul_right _ hj
    rw [Nat.add_mul] at this
    omega
  rw [add_none, Nat.zero_add, h.cellAt _ hjm, flat_at hm _ _ _ hk, hx]
  exact hu
theorem insC_size (i : Ins) : (insC i).size = 8 := rfl
theorem funC_size (f : Fun') : (funC f).size = 5 := rfl
theorem flat_one {α : Type} {C : α → Array Value} (h1 : ∀ x, ∀ u ∈ (C x).toList, u.oneCell' = true) (l : List α) : ∀ u ∈ flatC C l, u.oneCell' = true := by
  intro u hu
  obtain ⟨x, _, hx⟩ := List.mem_flatMap.1 hu
  exact h1 x u hx
theorem insC_one (i : Ins) : ∀ u ∈ (insC i).toList, u.oneCell' = true := by
  intro u hu
  simp [insC] at hu
  rcases hu with rfl | rfl | rfl | rfl | rfl | rfl | rfl | rfl <;> rfl
theorem funC_one (f : Fun') : ∀ u ∈ (funC f).toList, u.oneCell' = true := by
  intro u hu
  simp [funC] at hu
  rcases hu with rfl | rfl | rfl | rfl | rfl <;> rfl
/-- A row of the call's own that holds something is a slice with an address. -/
theorem own_some {w : World} {base n size : Nat} {e : TypeId} {v : Value} {xs : List Value} (h : w.ownsRow base e size v n xs) (hn : 0 < n) : ∃ g c, v = .slice (some ⟨g, 0, none⟩) n c ∧ base ≤ g ∧ g < w.heap.size := by
  rcases h.2 with ⟨_, h0⟩ | ⟨g, c, cur, rfl, hb, hg, _⟩
  · omega
  · exact ⟨g, c, rfl, hb, lt_of_heap hg⟩

end Go.Proofs.YtajmkdbokdjmeaaGreat
/- Rows of constraints of the call's own; what a generator is. -/
namespace Go.Proofs.YtajmkdbokdjmeaaGreat
open Go.RowKit
theorem konC_size (c : Kon) : (konC c).size = 9 := rfl
theorem konC_one (c : Kon) : ∀ u ∈ (konC c).toList, u.oneCell' = true := by
  intro u hu
  simp [konC] at hu
  rcases hu with rfl | rfl | rfl | rfl | rfl | rfl | rfl | rfl | rfl <;> rfl

theorem infoKon : (Tryz.prog.info? 43).map (fun i => (i.zero, i.size, i.bytes)) = some (some (.agg #[.int .i64 0, .int .i64 0, .int .i64 0, .int .i64 0, .int .i64 0, .int .i64 0, .slice none 0 0, .int .i64 0, .int .i64 0]), 9, 88) := by kernel_rfl
theorem infoInt : (Tryz.prog.info? 3).map (fun i => (i.zero, i.size, i.bytes)) = some (some (.int .i64 0), 1, 8) := by kernel_rfl
/-- Constraints of the call's own: a slice v of them. -/
def OwR (base : Nat) (W : World) (v : Value) (E : List Kon) : Prop := W.ownsRow base 43 9 v E.length (flatC konC E)



theorem own_form {w : World} {B n size : Nat} {e : TypeId} {v : Value} {xs : List Value} (h : w.ownsRow B e size v n xs) : ∃ ad c, v = .slice ad n c ∧ ((ad = none → c = 0) ∧ n ≤ c) ∧ (∀ g, ad = some ⟨g, 0, none⟩ → B ≤ g ∧ g < w.heap.size) := by
  rcases h.2 with ⟨rfl, rfl⟩ | ⟨g, cap, cur, rfl, hb, hh, hnc, _⟩
  · exact ⟨none, 0, rfl, ⟨fun _ => rfl, Nat.le_refl _⟩, fun _ h => by cases h⟩
  · refine ⟨some ⟨g, 0, none⟩, cap, rfl, ⟨(fun h => by cases h), hnc⟩, fun g' h => ?_⟩
    injection h with h
    injection h with h
    exact ⟨by omega, by rw [← h]; exact lt_of_heap hh⟩
theorem OwR.nil (base : Nat) (W : World) : OwR base W (.slice none 0 0) [] := own_nil _ _ _ _
theorem OwR.gr {base : Nat} {W W' : World} {v : Value} {E : List Kon} (h : OwR base W v E) (g : W.grownBy W' none) : OwR base W' v E := own_gr h g
theorem OwR.at_ {base : Nat} {W : World} {v : Value} {E : List Kon} (h : OwR base W v E) : ∃ A c, v = .slice A E.length c ∧ (A = none → c = 0) ∧ StrAt konC 9 W A E := by
  obtain ⟨ad, c, rfl, ⟨hc0, hc⟩, _⟩ := own_form h
  refine ⟨ad, c, rfl, hc0, ?_⟩
  rcases Nat.eq_zero_or_pos E.length with h0 | h0
  · exact .inl (List.length_eq_zero_iff.1 h0)
  · obtain ⟨g, c', e, _, _⟩ := own_some h h0
    injection e with e1 e2 e3
    subst e1
    exact StrAt.of_own konC_size h
theorem OwR.lt {base : Nat} {W : World} {v : Value} {E : List Kon} (h : OwR base W v E) : ∀ k, v.ownBlock = some k → base ≤ k ∧ k < W.heap.size := World.ownsRow.lt h
theorem OwR.is {base : Nat} {W : World} {v : Value} {E : List Kon} (h : OwR base W v E) {k : Nat} (hk : v.ownBlock = some k) : ∃ cs, W.heap[k]? = some (.cells cs 43 (0, 0)) := by
  rcases h.2 with ⟨rfl, _⟩ | ⟨g, cap, cur, rfl, _, hg, _⟩
  · cases hk
  · injection hk with hk
    have e : g = k := hk
    subst e
    exact ⟨_, hg⟩
/-- Constraints more. -/
theorem app_kons {w : World} {ops : Array Oper} {rest : List Oper} {o : Oper} {a : Act} {Q : Exit → Act → World → Prop} (hgd : o.guard = none) (s x : Operand)
    (ho : o.op = .call { callee := .builtin .append, args := #[s, x], argTypes := #[33, 33] })
    (base : Nat) (v : Value) (E D : List Kon) (hs : a.eval s = v) (hown : OwR base w v E) (A : Option Addr) (c n : Nat) (hnD : n = D.length)
    (hx : a.eval x = .slice A n c) (hD : StrAt konC 9 w A D) (hc : A = none → c = 0) (hn : E.length + D.length ≤ 100000000000) (hbase : base ≤ w.heap.size)
    (h : ∀ v' w', Hid (OwR base w' v' (E ++ D)) → Hid (w.grownBy w' v.ownBlock) → wpList Tryz.prog ops Q rest (a.put o.dst v') w') : wpList Tryz.prog ops Q (o :: rest) a w := by
  subst hnD
  obtain ⟨i0, hi, hz0, hz1, hz2⟩ := info_parts infoKon
  rcases A with _ | ad
  · have hD0 : D = [] := by
      rcases hD with h0 | ⟨ad, e, _⟩
      · exact h0
      · cases e
    subst hD0
    rw [hc rfl] at hx
    refine wpList_append_own_none hgd s x 33 ho base 43 i0 9 Tryz.underlying33 hi v E.length (flatC konC E) hs hown hx (h v w (by rw [List.append_nil]; exact hown) (grownBy_refl w _))
  · refine wpList_append_own w hgd s x 33 ho base 43 i0 _ 9 88 Tryz.underlying33 hi hz0 hz1 hz2 rfl (by decide) v E.length (flatC konC E) hs hown ad D.length c (flatC konC D) hx (flat_len konC_size D) (StrAt.flat konC_size hD) (flat_one konC_one D) ?_ ?_ hbase fun v' w' h2 h3 _ => h v' w' ?_ h3
    · unfold maxLen; omega
    · omega
    · unfold OwR
      rw [flat_app, List.length_append]
      exact h2
/-- Numbers of the call's own. -/
def OwN (base : Nat) (W : World) (v : Value) (l : List Int) : Prop := W.ownsRow base 3 1 v l.length (intsV l)

theorem OwN.nil (base : Nat) (W : World) : OwN base W (.slice none 0 0) [] := own_nil _ _ _ _
theorem OwN.gr {base : Nat} {W W' : World} {v : Value} {l : List Int} (h : OwN base W v l) (g : W.grownBy W' none) : OwN base W' v l := own_gr h g
/-- One number more. -/
theorem app_one {w : World} {ops : Array Oper} {rest : List Oper} {o : Oper} {a : Act} {Q : Exit → Act → World → Prop} (hgd : o.guard = none) (s x : Operand)
    (ho : o.op = .call { callee := .builtin .append, args := #[s, x], argTypes := #[28, 28] })
    (base : Nat) (v : Value) (L : List Int) (hs : a.eval s = v) (hown : OwN base w v L) (b : Nat) (y : Int) (fz : Nat × Nat)
    (hx : a.eval x = .slice (some ⟨b, 0, none⟩) 1 1) (hb : w.heap[b]? = some (.cells #[.int .i64 y] 3 fz)) (hn : L.length ≤ 1000000000000) (hbase : base ≤ w.heap.size)
    (h : ∀ v' w', Hid (OwN base w' v' (L ++ [y])) → Hid (w.grownBy w' v.ownBlock) → wpList Tryz.prog ops Q rest (a.put o.dst v') w') : wpList Tryz.prog ops Q (o :: rest) a w := by
  obtain ⟨i0, hi, hz0, hz1, hz2⟩ := info_parts infoInt
  refine wpList_append_own w hgd s x 28 ho base 3 i0 _ 1 8 Tryz.underlying28 hi hz0 hz1 hz2 rfl (by decide) v L.length (intsV L) hs hown ⟨b, 0, none⟩ 1 1 [.int .i64 y] hx rfl ?_ ?_ ?_ ?_ hbase fun v' w' h2 h3 _ => h v' w' ?_ h3
  · intro j u hu
    rw [add_none, Nat.zero_add, cell_of_row _ _ _ _ _ _ hb, ← Array.getElem?_toList]
    exact hu
  · intro u hu; simp at hu; subst hu; rfl
  · unfold maxLen; omega
  · omega
  · unfold OwN
    rw [List.length_append, intsV_append]
    exact h2
/-- Numbers in a block of their own: they outlast whatever is done with blocks of other types. -/
def ArgsAt (W : World) (A : Option Addr) (n c : Nat) (l : List Int) : Prop :=
  n = l.length ∧ ((A = none ∧ n = 0 ∧ c = 0) ∨ ∃ g cs, A = some ⟨g, 0, none⟩ ∧ W.heap[g]? = some (.cells cs 3 (0, 0)) ∧ cs.toList.take n = intsV l)
theorem ArgsAt.nil (W : World) : ArgsAt W none 0 0 [] := ⟨rfl, .inl ⟨rfl, rfl, rfl⟩⟩
theorem ArgsAt.ints {W : World} {A : Option Addr} {n c : Nat} {l : List Int} (h : ArgsAt W A n c l) : IntsAt W A n c l := by
  refine ⟨h.1, h.2.imp id fun ⟨g, cs, e, hh, ht⟩ => ⟨_, e, fun j x hx => ?_⟩⟩
  rw [add_none, Nat.zero_add, cell_of_row _ _ _ _ _ _ hh, ← Array.getElem?_toList]
  have h1 : (cs.toList.take n)[j]? = some (.int .i64 x) := by rw [ht]; simp [intsV, hx]
  rw [List.getElem?_take] at h1
  split at h1
  · exact h1
  · cases h1
theorem OwN.args {base : Nat} {W : World} {v : Value} {l : List Int} (h : OwN base W v l) : ∃ A c, v = .slice A l.length c ∧ ArgsAt W A l.length c l := by
  rcases h.2 with ⟨rfl, h0⟩ | ⟨g, cap, cur, rfl, hg, hh, hnc, hcap, hsz, hcur⟩
  · have : l = [] := List.eq_nil_of_length_eq_zero h0
    subst this
    exact ⟨_, _, rfl, .nil W⟩
  · exact ⟨_, _, rfl, rfl, .inr ⟨g, cur, rfl, hh, by rw [← hcur, Nat.mul_one]⟩⟩
/-- Only blocks of constraints, and generators, turn. -/
structure FrK (w w' : World) : Prop where
  made ::
  size : w.heap.size ≤ w'.heap.size
  keep : ∀ (k : Nat) cs t fz, w.heap[k]? = some (.cells cs t fz) → t ≠ 43 → t ≠ 60 → w'.heap[k]? = some (.cells cs t fz)
theorem FrK.refl (w : World) : FrK w w := ⟨Nat.le_refl _, fun _ _ _ _ h _ _ => h⟩
theorem FrK.trans {a b c : World} (h : FrK a b) (k : FrK b c) : FrK a c := ⟨Nat.le_trans h.size k.size, fun i cs t fz hi h1 h2 => k.keep i cs t fz (h.keep i cs t fz hi h1 h2) h1 h2⟩
theorem FrK.gr {w w' : World} (g : w.grownBy w' none) : FrK w w' := ⟨g.size, fun k cs t fz h _ _ => (g.block k (lt_of_heap h) (by simp)).trans h⟩
theorem FrK.own {w w' : World} {base : Nat} {v : Value} {E : List Kon} (h : OwR base w v E) (g : w.grownBy w' v.ownBlock) : FrK w w' := ⟨g.size, fun k cs t fz hk h1 _ => (g.block k (lt_of_heap hk) (fun e => by
  obtain ⟨cs', hc⟩ := h.is e.symm
  rw [hk] at hc
  injection hc with hc
  injection hc with _ h3 _
  exact h1 h3)).trans hk⟩
theorem FrK.drew {w w' : World} (h : FrK w w') : FrK w w'.drew := ⟨h.size, h.keep⟩
theorem ArgsAt.fr {W W' : World} {A : Option Addr} {n c : Nat} {l : List Int} (h : ArgsAt W A n c l) (k : FrK W W') : ArgsAt W' A n c l :=
  ⟨h.1, h.2.imp id fun ⟨g, cs, e, hh, ht⟩ => ⟨g, cs, e, k.keep g cs _ _ hh (by decide) (by decide), ht⟩⟩
theorem BoxC.fr {C : Array Value} {t b : Nat} {w w' : World} (h : BoxC C t b w) (k : FrK w w') (h1 : t ≠ 43) (h2 : t ≠ 60) : BoxC C t b w' := k.keep b C t _ h h1 h2
/-- Constraints whose arguments lie in memory. -/
def KArgs (W : World) (L : List Kon) : Prop := ∀ c ∈ L, ArgsAt W c.aa c.an c.ac c.args
theorem KArgs.fr {W W' : World} {L : List Kon} (h : KArgs W L) (k : FrK W W') : KArgs W' L := fun c hc => (h c hc).fr k
theorem KArgs.nil (W : World) : KArgs W [] := fun _ h => by cases h
theorem KArgs.app {W : World} {L M : List Kon} (h : KArgs W L) (k : KArgs W M) : KArgs W (L ++ M) := fun c hc => (List.mem_append.1 hc).elim (h c) (k c)
theorem KArgs.of {W : World} {k a b n s o f q : Int} : KArgs W [⟨k, a, b, n, s, o, none, 0, 0, [], f, q⟩] := fun c hc => by
  obtain rfl := List.mem_singleton.1 hc
  exact .nil W

end Go.Proofs.YtajmkdbokdjmeaaGreat
/- A row of functions: one of them turned; blocks that hold just these cells, one of them turned. -/
namespace Go.Proofs.YtajmkdbokdjmeaaGreat
open Go.RowKit
theorem row_put5 {w : World} {B e g n cap k : Nat} {c1 c2 : List Value} {x0 x1 x2 x3 x4 : Value} (h : w.ownsRow B e 5 (.slice (some ⟨g, 0, none⟩) n cap) n (c1 ++ ([x0, x1, x2, x3, x4] ++ c2))) (hk : c1.length = k * 5) (y0 y1 y2 y3 y4 : Value) :
    (((((w.setCell ⟨g, k * 5, none⟩ y0).setCell ⟨g, k * 5 + 1, none⟩ y1).setCell ⟨g, k * 5 + 2, none⟩ y2).setCell ⟨g, k * 5 + 3, none⟩ y3).setCell ⟨g, k * 5 + 4, none⟩ y4).ownsRow B e 5 (.slice (some ⟨g, 0, none⟩) n cap) n (c1 ++ ([y0, y1, y2, y3, y4] ++ c2)) := by
  refine ⟨by have := h.1; simp at this ⊢; omega, ?_⟩
  rcases h.2 with ⟨h0, _⟩ | ⟨g', cap', cur, hv, hg, hh, hn, hc, hs, ht⟩
  · cases h0
  · simp only [Value.slice.injEq, Option.some.injEq, Addr.mk.injEq] at hv
    obtain ⟨⟨rfl, _, _⟩, _, rfl⟩ := hv
    refine .inr ⟨g, cap, ((((cur.setIfInBounds (k * 5) y0).setIfInBounds (k * 5 + 1) y1).setIfInBounds (k * 5 + 2) y2).setIfInBounds (k * 5 + 3) y3).setIfInBounds (k * 5 + 4) y4, rfl, hg, ?_, hn, hc, by simpa using hs, ?_⟩
    · simp [World.setCell, Array.getElem?_modify, hh]
    · simp only [Array.toList_setIfInBounds, List.take_set, ht]
      rw [List.set_append_right _ _ (by omega), hk, Nat.sub_self]
      rw [List.set_append_right _ _ (by omega), hk, show k * 5 + 1 - k * 5 = 1 by omega]
      rw [List.set_append_right _ _ (by omega), hk, show k * 5 + 2 - k * 5 = 2 by omega]
      rw [List.set_append_right _ _ (by omega), hk, show k * 5 + 3 - k * 5 = 3 by omega]
      rw [List.set_append_right _ _ (by omega), hk, show k * 5 + 4 - k * 5 = 4 by omega]
      rfl
theorem row_froz {w : World} {B e g n cap size : Nat} {xs : List Value} (h : w.ownsRow B e size (.slice (some ⟨g, 0, none⟩) n cap) n xs) (o : Nat) : w.frozen? ⟨g, o, none⟩ = false := by
  rcases h.2 with ⟨h0, _⟩ | ⟨g', cap', cur, hv, hg, hh, _⟩
  · cases h0
  · simp only [Value.slice.injEq, Option.some.injEq, Addr.mk.injEq] at hv
    obtain ⟨⟨rfl, _, _⟩, _, rfl⟩ := hv
    simp [World.frozen?, hh]
theorem BoxC.froz {C : Array Value} {t b : Nat} {w : World} (h : BoxC C t b w) (o : Nat) : w.frozen? ⟨b, o, none⟩ = false := by unfold BoxC at h; simp [World.frozen?, h]
theorem BoxC.set {C : Array Value} {t b : Nat} {w : World} (h : BoxC C t b w) (o : Nat) (v : Value) : BoxC (C.setIfInBounds o v) t b (w.setCell ⟨b, o, none⟩ v) := by unfold BoxC at *; simp [World.setCell, Array.getElem?_modify, h]
theorem BoxC.other {C : Array Value} {t b : Nat} {w : World} (h : BoxC C t b w) {a : Addr} (ha : a.block ≠ b) (v : Value) : BoxC C t b (w.setCell a v) := by unfold BoxC at *; rw [Below.heap_setCell _ _ _ _ (fun e => ha e.symm)]; exact h
/-- The row with one function turned. -/
theorem flat_set {l : List Fun'} {k : Nat} {f : Fun'} (h : l[k]? = some f) : ∃ c1 c2, c1.length = k * 5 ∧ flatC funC l = c1 ++ ((funC f).toList ++ c2) ∧ ∀ f', flatC funC (l.set k f') = c1 ++ ((funC f').toList ++ c2) := by
  have hk : k < l.length := (List.getElem?_eq_some_iff.1 h).1
  have e : l = l.take k ++ f :: l.drop (k + 1) := by
    obtain ⟨_, e1⟩ := List.getElem?_eq_some_iff.1 h
    rw [← e1, ← List.drop_eq_getElem_cons hk, List.take_append_drop]
  have hl : (l.take k).length = k := by rw [List.length_take]; omega
  refine ⟨flatC funC (l.take k), flatC funC (l.drop (k + 1)), by rw [flat_len funC_size, hl], ?_, fun f' => ?_⟩
  · conv => lhs; rw [e]
    rw [flat_app]; rfl
  · conv => lhs; rw [e]
    rw [List.set_append_right _ _ (by omega), hl, Nat.sub_self, List.set_cons_zero, flat_app]; rfl

end Go.Proofs.YtajmkdbokdjmeaaGreat
/- gen: what creates constraints. -/
namespace Go.Proofs.YtajmkdbokdjmeaaGreat
open Go.RowKit
def cr1V (b1 b2 : Nat) : Value := .func (.func 56) #[] #[.pointer (some ⟨b1, 0, none⟩), .pointer (some ⟨b2, 0, none⟩)]
/-- The closures that create the constraints of the instruction at pc of a function. -/
structure CrAt (w : World) (b1 b2 b3 : Nat) (fn pc : Int) : Prop where
  made ::
  h1 : w.heap[b1]? = some (.cells #[.int .i64 fn] 3 (0, 0))
  h2 : w.heap[b2]? = some (.cells #[.int .i64 pc] 3 (0, 0))
  h3 : w.heap[b3]? = some (.cells #[.func (.func 56) #[] #[.pointer (some ⟨b1, 0, none⟩), .pointer (some ⟨b2, 0, none⟩)]] 77 (0, 0))
theorem CrAt.fr {w w' : World} {b1 b2 b3 : Nat} {fn pc : Int} (h : CrAt w b1 b2 b3 fn pc) (k : FrK w w') : CrAt w' b1 b2 b3 fn pc :=
  ⟨k.keep _ _ _ _ h.h1 (by decide) (by decide), k.keep _ _ _ _ h.h2 (by decide) (by decide), k.keep _ _ _ _ h.h3 (by decide) (by decide)⟩
theorem CrAt.gr {w w' : World} {b1 b2 b3 : Nat} {fn pc : Int} (h : CrAt w b1 b2 b3 fn pc) (k : w.grownBy w' none) : CrAt w' b1 b2 b3 fn pc := h.fr (.gr k)
theorem CrAt.cells {w : World} {b1 b2 b3 : Nat} {fn pc : Int} (h : CrAt w b1 b2 b3 fn pc) : w.cell? ⟨b1, 0, none⟩ = some (.int .i64 fn) ∧ w.cell? ⟨b2, 0, none⟩ = some (.int .i64 pc) ∧ w.cell? ⟨b3, 0, none⟩ = some (.func (.func 56) #[] #[.pointer (some ⟨b1, 0, none⟩), .pointer (some ⟨b2, 0, none⟩)]) :=
  ⟨by rw [cell_of_row _ _ _ _ _ _ h.h1]; rfl, by rw [cell_of_row _ _ _ _ _ _ h.h2]; rfl, by rw [cell_of_row _ _ _ _ _ _ h.h3]; rfl⟩
theorem sol9 {W : World} {b : Nat} {x0 x1 x2 x3 x4 x5 x6 x7 x8 : Value} {t : TypeId} (h : W.heap[b]? = some (.cells #[x0, x1, x2, x3, x4, x5, x6, x7, x8] t (0, 0))) :
    (W.cell? ⟨b, 0, none⟩ = some x0 ∧ W.cell? ⟨b, 1, none⟩ = some x1 ∧ W.cell? ⟨b, 2, none⟩ = some x2 ∧ W.cell? ⟨b, 3, none⟩ = some x3 ∧ W.cell? ⟨b, 4, none⟩ = some x4 ∧ W.cell? ⟨b, 5, none⟩ = some x5 ∧ W.cell? ⟨b, 6, none⟩ = some x6 ∧ W.cell? ⟨b, 7, none⟩ = some x7 ∧ W.cell? ⟨b, 8, none⟩ = some x8) ∧
    W.frozen? ⟨b, 0, none⟩ = false ∧ W.frozen? ⟨b, 1, none⟩ = false ∧ W.frozen? ⟨b, 2, none⟩ = false ∧ W.frozen? ⟨b, 3, none⟩ = false ∧ W.frozen? ⟨b, 4, none⟩ = false ∧ W.frozen? ⟨b, 5, none⟩ = false ∧ W.frozen? ⟨b, 6, none⟩ = false ∧ W.frozen? ⟨b, 7, none⟩ = false ∧ W.frozen? ⟨b, 8, none⟩ = false := by
  simp [World.cell?, World.frozen?, h]
theorem gr_set9 {w W : World} {b : Nat} (g : w.grownBy W none) (hb : w.heap.size ≤ b) (x0 x1 x2 x3 x4 x5 x6 x7 x8 : Value) :
    w.grownBy (((((((((W.setCell ⟨b, 0, none⟩ x0).setCell ⟨b, 1, none⟩ x1).setCell ⟨b, 2, none⟩ x2).setCell ⟨b, 3, none⟩ x3).setCell ⟨b, 4, none⟩ x4).setCell ⟨b, 5, none⟩ x5).setCell ⟨b, 6, none⟩ x6).setCell ⟨b, 7, none⟩ x7).setCell ⟨b, 8, none⟩ x8) none :=
  ((((((((g.gr_set (p := ⟨b, 0, none⟩) hb _).gr_set (p := ⟨b, 1, none⟩) hb _).gr_set (p := ⟨b, 2, none⟩) hb _).gr_set (p := ⟨b, 3, none⟩) hb _).gr_set (p := ⟨b, 4, none⟩) hb _).gr_set (p := ⟨b, 5, none⟩) hb _).gr_set (p := ⟨b, 6, none⟩) hb _).gr_set (p := ⟨b, 7, none⟩) hb _).gr_set (p := ⟨b, 8, none⟩) hb _
theorem alloc_keep {W : World} {k : Nat} {o x : Obj} (h : W.heap[k]? = some x) : (W.alloc o).heap[k]? = some x := by
  rw [heap_alloc_old _ _ (Array.getElem?_eq_some_iff.1 h).1]
  exact h
theorem alloc_at {W : World} {k : Nat} {o : Obj} (h : k = W.heap.size) : (W.alloc o).heap[k]? = some o := by
  subst h
  exact heap_alloc_new W o
theorem sol9set {W : World} {b : Nat} {x0 x1 x2 x3 x4 x5 x6 x7 x8 : Value} {t : TypeId} (h : W.heap[b]? = some (.cells #[x0, x1, x2, x3, x4, x5, x6, x7, x8] t (0, 0))) (y0 y1 y2 y3 y4 y5 y6 y7 y8 : Value) (o : Obj) :
    ((((((((((W.setCell ⟨b, 0, none⟩ y0).setCell ⟨b, 1, none⟩ y1).setCell ⟨b, 2, none⟩ y2).setCell ⟨b, 3, none⟩ y3).setCell ⟨b, 4, none⟩ y4).setCell ⟨b, 5, none⟩ y5).setCell ⟨b, 6, none⟩ y6).setCell ⟨b, 7, none⟩ y7).setCell ⟨b, 8, none⟩ y8).alloc o).heap[b]? = some (.cells #[y0, y1, y2, y3, y4, y5, y6, y7, y8] t (0, 0)) := by
  have h1 : BoxC #[x0, x1, x2, x3, x4, x5, x6, x7, x8] t b W := h
  have h2 := ((((((((h1.set 0 y0).set 1 y1).set 2 y2).set 3 y3).set 4 y4).set 5 y5).set 6 y6).set 7 y7).set 8 y8
  simp only [List.setIfInBounds_toArray, List.set_cons_zero, List.set_cons_succ] at h2
  exact alloc_keep h2
section
variable {w : World} {b1 b2 b3 : Nat} {fn pc : Int}
set_option maxRecDepth 100000 in
set_option maxHeartbeats 4000000 in
theorem flow_any (h : CrAt w b1 b2 b3 fn pc) (k a b n : Int) :
    Calls Tryz.prog 56 #[.int .i64 k, .int .i64 a, .int .i64 b, .int .i64 n, .pointer (some ⟨b1, 0, none⟩), .pointer (some ⟨b2, 0, none⟩)] w fun e w' =>
      e = .returned (.agg #[.int .i64 k, .int .i64 a, .int .i64 b, .int .i64 n, .int .i64 0, .int .i64 0, .slice none 0 0, .int .i64 fn, .int .i64 pc]) ∧ w.grownBy w' none := by
  obtain ⟨c1, c2, _⟩ := h.cells
  have l1 := lt_of_heap h.h1
  have l2 := lt_of_heap h.h2
  clear h
  go_enter Tryz.func56, Tryz.ntmps56
  go_wp2_with fail
  refine bodyPost_ret (v := .agg #[.int .i64 k, .int .i64 a, .int .i64 b, .int .i64 n, .int .i64 0, .int .i64 0, .slice none 0 0, .int .i64 fn, .int .i64 pc]) (by simp [results, Tryz.results56, go_sem]) rfl ⟨rfl, by repeat (first | with_reducible exact grownBy_refl _ _ | with_reducible assumption | with_reducible refine World.grownBy.gr_drew ?_ | with_reducible refine World.grownBy.gr_set ?_ (by simp) _ | with_reducible refine gr_alloc ?_ _)⟩
set_option maxRecDepth 100000 in
set_option maxHeartbeats 4000000 in
theorem base_any (h : CrAt w b1 b2 b3 fn pc) (a s : Int) :
    Calls Tryz.prog 57 #[.int .i64 a, .int .i64 s, .pointer (some ⟨b3, 0, none⟩)] w fun e w' =>
      e = .returned (.agg #[.int .i64 1, .int .i64 a, .int .i64 0, .int .i64 0, .int .i64 s, .int .i64 0, .slice none 0 0, .int .i64 fn, .int .i64 pc]) ∧ w.grownBy w' none := by
  obtain ⟨c1, c2, c3⟩ := h.cells
  have l3 := lt_of_heap h.h3
  have HF := Lib.hid (flow_any (h.gr (gr_alloc (grownBy_refl w none) (.cells #[.int .i64 0, .int .i64 0, .int .i64 0, .int .i64 0, .int .i64 0, .int .i64 0, .slice none 0 0, .int .i64 0, .int .i64 0] 43))) 1 a 0 0)
  clear h
  go_enter Tryz.func57, Tryz.ntmps57
  go_wp2_with fail
  refine HF.out.mono ?_
  rintro e w1 ⟨rfl, hg1⟩
  have HG1 := Lib.hid (grownBy_trans (gr_alloc (grownBy_refl w none) _) hg1)
  have q0 : w1.heap[w.heap.size]? = some (.cells #[.int .i64 0, .int .i64 0, .int .i64 0, .int .i64 0, .int .i64 0, .int .i64 0, .slice none 0 0, .int .i64 0, .int .i64 0] 43 (0, 0)) := (hg1.block _ (by simp) (by simp)).trans (heap_alloc_new w _)
  have hl := lt_of_heap q0
  have HQ0 := Lib.hid q0
  obtain ⟨⟨q0, q1, q2, q3, q4, q5, q6, q7, q8⟩, f0, f1, f2, f3, f4, f5, f6, f7, f8⟩ := sol9 q0
  clear hg1 HF
  go_wp2_with fail
  obtain ⟨⟨s0, s1, s2, s3, s4, s5, s6, s7, s8⟩, -⟩ := sol9 (sol9set HQ0.out (.int .i64 1) (.int .i64 a) (.int .i64 0) (.int .i64 0) (.int .i64 s) (.int .i64 0) (.slice none 0 0) (.int .i64 fn) (.int .i64 pc) (.cells #[.int .i64 1, .int .i64 a, .int .i64 0, .int .i64 0, .int .i64 s, .int .i64 0, .slice none 0 0, .int .i64 fn, .int .i64 pc] 43))
  refine bodyPost_ret (v := .agg #[.int .i64 1, .int .i64 a, .int .i64 0, .int .i64 0, .int .i64 s, .int .i64 0, .slice none 0 0, .int .i64 fn, .int .i64 pc]) (by simp [results, Tryz.results57, go_sem, s0, s1, s2, s3, s4, s5, s6, s7, s8]) rfl ⟨rfl, ?_⟩
  exact gr_alloc (gr_set9 HG1.out (Nat.le_refl _) _ _ _ _ _ _ _ _ _) _
set_option maxRecDepth 100000 in
set_option maxHeartbeats 4000000 in
theorem callC_any (h : CrAt w b1 b2 b3 fn pc) (a b : Int) (A : Option Addr) (n c : Nat) :
    Calls Tryz.prog 58 #[.int .i64 a, .int .i64 b, .slice A n c, .pointer (some ⟨b3, 0, none⟩)] w fun e w' =>
      e = .returned (.agg #[.int .i64 8, .int .i64 a, .int .i64 b, .int .i64 0, .int .i64 0, .int .i64 0, .slice A n c, .int .i64 fn, .int .i64 pc]) ∧ w.grownBy w' none := by
  obtain ⟨c1, c2, c3⟩ := h.cells
  have l3 := lt_of_heap h.h3
  have HF := Lib.hid (flow_any (h.gr (gr_alloc (grownBy_refl w none) (.cells #[.int .i64 0, .int .i64 0, .int .i64 0, .int .i64 0, .int .i64 0, .int .i64 0, .slice none 0 0, .int .i64 0, .int .i64 0] 43))) 8 a b 0)
  clear h
  go_enter Tryz.func58, Tryz.ntmps58
  go_wp2_with fail
  refine HF.out.mono ?_
  rintro e w1 ⟨rfl, hg1⟩
  have HG1 := Lib.hid (grownBy_trans (gr_alloc (grownBy_refl w none) _) hg1)
  have q0 : w1.heap[w.heap.size]? = some (.cells #[.int .i64 0, .int .i64 0, .int .i64 0, .int .i64 0, .int .i64 0, .int .i64 0, .slice none 0 0, .int .i64 0, .int .i64 0] 43 (0, 0)) := (hg1.block _ (by simp) (by simp)).trans (heap_alloc_new w _)
  have hl := lt_of_heap q0
  have HQ0 := Lib.hid q0
  obtain ⟨⟨q0, q1, q2, q3, q4, q5, q6, q7, q8⟩, f0, f1, f2, f3, f4, f5, f6, f7, f8⟩ := sol9 q0
  clear hg1 HF
  go_wp2_with fail
  obtain ⟨⟨s0, s1, s2, s3, s4, s5, s6, s7, s8⟩, -⟩ := sol9 (sol9set HQ0.out (.int .i64 8) (.int .i64 a) (.int .i64 b) (.int .i64 0) (.int .i64 0) (.int .i64 0) (.slice A n c) (.int .i64 fn) (.int .i64 pc) (.cells #[.int .i64 8, .int .i64 a, .int .i64 b, .int .i64 0, .int .i64 0, .int .i64 0, .slice A n c, .int .i64 fn, .int .i64 pc] 43))
  refine bodyPost_ret (v := .agg #[.int .i64 8, .int .i64 a, .int .i64 b, .int .i64 0, .int .i64 0, .int .i64 0, .slice A n c, .int .i64 fn, .int .i64 pc]) (by simp [results, Tryz.results58, go_sem, s0, s1, s2, s3, s4, s5, s6, s7, s8]) rfl ⟨rfl, ?_⟩
  exact gr_alloc (gr_set9 HG1.out (Nat.le_refl _) _ _ _ _ _ _ _ _ _) _
end
set_option maxRecDepth 100000 in
set_option maxHeartbeats 4000000 in
theorem creators_any (fn pc : Int) (w : World) :
    Calls Tryz.prog 28 #[.int .i64 fn, .int .i64 pc] w fun e w' => ∃ b1 b2 b3 : Nat,
      e = .returned (.agg #[.func (.func 57) #[] #[.pointer (some ⟨b3, 0, none⟩)], .func (.func 56) #[] #[.pointer (some ⟨b1, 0, none⟩), .pointer (some ⟨b2, 0, none⟩)], .func (.func 58) #[] #[.pointer (some ⟨b3, 0, none⟩)]]) ∧ CrAt w' b1 b2 b3 fn pc ∧ w.grownBy w' none := by
  go_enter Tryz.func28, Tryz.ntmps28
  go_wp2_with fail
  refine bodyPost_ret (v := .agg #[.func (.func 57) #[] #[.pointer (some ⟨w.heap.size + 3, 0, none⟩)], .func (.func 56) #[] #[.pointer (some ⟨w.heap.size, 0, none⟩), .pointer (some ⟨w.heap.size + 1, 0, none⟩)], .func (.func 58) #[] #[.pointer (some ⟨w.heap.size + 3, 0, none⟩)]]) (by simp [results, Tryz.results28, go_sem]) rfl ⟨_, _, _, rfl, ?_, ?_⟩
  · refine ⟨alloc_keep (alloc_keep (alloc_keep (alloc_at rfl))), alloc_keep (alloc_keep (alloc_at (by simp))), alloc_at (by simp)⟩
  · repeat (first | with_reducible exact grownBy_refl _ _ | with_reducible assumption | with_reducible refine World.grownBy.gr_drew ?_ | with_reducible refine World.grownBy.gr_set ?_ (by simp) _ | with_reducible refine gr_alloc ?_ _)
theorem hold_yes {n : Int} (h : n = 1 ∨ n = 8) : ((n == 1) || (n == 8)) = true := by rcases h with rfl | rfl <;> rfl
set_option maxRecDepth 100000 in
set_option maxHeartbeats 4000000 in
theorem hold_any (n : Int) (w : World) : Calls Tryz.prog 31 #[.int .i64 n] w fun e w' => e = .returned (.bool (decide (n = 1 ∨ n = 8))) ∧ w = w' := by
  by_cases h1 : n = 1
  · subst h1
    go_enter Tryz.func31, Tryz.ntmps31
    go_wp2_with fail
    go_ret
    exact ⟨rfl, rfl⟩
  · have e1 : (n == 1) = false := by simpa using h1
    by_cases h8 : n = 8
    · subst h8
      go_enter Tryz.func31, Tryz.ntmps31
      go_wp2_with fail
      go_ret
      exact ⟨rfl, rfl⟩
    · have e8 : (n == 8) = false := by simpa using h8
      have ee : decide (n = 1 ∨ n = 8) = false := by simp [h1, h8]
      rw [ee]
      clear h1 h8 ee
      go_enter Tryz.func31, Tryz.ntmps31
      go_wp2_with fail
      go_ret
      exact ⟨rfl, rfl⟩

end Go.Proofs.YtajmkdbokdjmeaaGreat
/- gen: a generator; collect, variables, result. -/
namespace Go.Proofs.YtajmkdbokdjmeaaGreat
open Go.RowKit
def fstsL (fs : List Fun') : List Int := (List.range fs.length).map fun k => fstK fs k
theorem fstsL_len (fs : List Fun') : (fstsL fs).length = fs.length := by simp [fstsL]
theorem fstsL_at {fs : List Fun'} {k : Nat} (h : k < fs.length) : (fstsL fs)[k]? = some (fstK fs k) := by simp [fstsL, h]
/-- What a generator reads. -/
structure GenR (p : Prg) (Sa : Option Addr) (Sc gb : Nat) (w : World) : Prop where
  made ::
  h0 : w.cell? ⟨gb, 0, none⟩ = some (.slice p.fa p.fns.length p.fc)
  h1 : w.cell? ⟨gb, 1, none⟩ = some (.slice Sa p.fns.length Sc)
  fst : IntsAt w Sa p.fns.length Sc (fstsL p.fns)
  fns : StrAt funC 5 w p.fa p.fns
theorem GenR.keep {p : Prg} {Sa : Option Addr} {Sc gb : Nat} {w w' : World} (h : GenR p Sa Sc gb w) (k : CellsK w w') : GenR p Sa Sc gb w' := ⟨k.2 _ _ h.h0, k.2 _ _ h.h1, h.fst.keep k, h.fns.keep k⟩
theorem IntsAt.cellAt {w : World} {A : Option Addr} {n c : Nat} {l : List Int} (h : IntsAt w A n c l) {q : Nat} {y : Int} (hx : l[q]? = some y) : ∃ ad, A = some ad ∧ w.cell? (ad.add q) = some (.int .i64 y) := by
  rcases h.2 with ⟨_, hn, _⟩ | ⟨ad, e, hc⟩
  · have h1 := h.1
    have h2 := (List.getElem?_eq_some_iff.1 hx).1
    omega
  · exact ⟨ad, e, hc q y hx⟩
theorem GenR.first {p : Prg} {Sa : Option Addr} {Sc gb : Nat} {w : World} (h : GenR p Sa Sc gb w) {k : Nat} (hk : k < p.fns.length) : ∃ ad, Sa = some ad ∧ w.cell? (ad.add k) = some (.int .i64 (fstK p.fns k)) := h.fst.cellAt (fstsL_at hk)
/-- A generator that has collected L, made since w0. -/
structure GenSt (w0 : World) (gb : Nat) (F S : Value) (L : List Kon) (w : World) : Prop where
  made ::
  gr : w0.grownBy w none
  lt : w0.heap.size ≤ gb
  box : ∃ v, w.heap[gb]? = some (.cells #[F, S, v] 60 (0, 0)) ∧ OwR w0.heap.size w v L
  args : KArgs w L
theorem GenSt.keep {w0 w w' : World} {gb : Nat} {F S : Value} {L : List Kon} (h : GenSt w0 gb F S L w) (g : w.grownBy w' none) : GenSt w0 gb F S L w' := by
  obtain ⟨h1, h2, ⟨v, h3, h4⟩, h5⟩ := h
  exact ⟨grownBy_trans h1 g, h2, ⟨v, (g.block _ (lt_of_heap h3) (by simp)).trans h3, h4.gr g⟩, h5.fr (.gr g)⟩
theorem FrK.setG {w : World} {gb k : Nat} {C : Array Value} {fz : Nat × Nat} (h : w.heap[gb]? = some (.cells C 60 fz)) (v : Value) : FrK w (w.setCell ⟨gb, k, none⟩ v) := by
  refine ⟨by simp [World.setCell], fun i cs t fz' hi _ h2 => ?_⟩
  have hne : i ≠ gb := fun e => by
    subst e
    rw [h] at hi
    injection hi with hi
    injection hi with _ h3 _
    exact h2 h3.symm
  rw [heap_setCell_other _ _ _ _ hne]
  exact hi
theorem collect_end {w0 w w1 : World} {gb n1 c1 : Nat} {F S v : Value} {A1 : Option Addr} {L D : List Kon} (hS : GenSt w0 gb F S L w) (hD : KArgs w D) (hb : w.heap[gb]? = some (.cells #[F, S, v] 60 (0, 0))) (hv : OwR w0.heap.size w v L)
    (hO : OwR w0.heap.size w1 (.slice A1 n1 c1) (L ++ D)) (hg : w.grownBy w1 v.ownBlock) :
    GenSt w0 gb F S (L ++ D) (w1.setCell ⟨gb, 2, none⟩ (.slice A1 n1 c1)) ∧ FrK w (w1.setCell ⟨gb, 2, none⟩ (.slice A1 n1 c1)) := by
  have hne : some gb ≠ v.ownBlock := fun e => by
    obtain ⟨cs, hc⟩ := hv.is e.symm
    rw [hb] at hc
    injection hc with hc
    injection hc with _ h3 _
    exact absurd h3 (by decide)
  have hb1 : BoxC #[F, S, v] 60 gb w1 := (hg.block _ (lt_of_heap hb) hne).trans hb
  have hb2 := hb1.set 2 (.slice A1 n1 c1)
  have hne1 : some gb ≠ (Value.slice A1 n1 c1).ownBlock := fun e => by
    obtain ⟨cs, hc⟩ := hO.is e.symm
    rw [show w1.heap[gb]? = _ from hb1] at hc
    injection hc with hc
    injection hc with _ h3 _
    exact absurd h3 (by decide)
  have hF : FrK w (w1.setCell ⟨gb, 2, none⟩ (.slice A1 n1 c1)) := (FrK.own hv hg).trans (.setG hb1 _)
  refine ⟨⟨?_, hS.lt, ⟨_, hb2, ?_⟩, (hS.args.app hD).fr hF⟩, hF⟩
  · exact World.grownBy.gr_set (gr_own hS.gr hg fun k hk => (hv.lt k hk).1) (p := ⟨gb, 2, none⟩) hS.lt _
  · exact ownsRow_setCell_other hO (a := ⟨gb, 2, none⟩) (fun e => hne1 e.symm) _
theorem gen_kept {base : Nat} {w w1 : World} {gb : Nat} {F S v : Value} {L : List Kon} (hb : w.heap[gb]? = some (.cells #[F, S, v] 60 (0, 0))) (hv : OwR base w v L) (hg : w.grownBy w1 v.ownBlock) :
    w1.cell? ⟨gb, 0, none⟩ = some F ∧ w1.cell? ⟨gb, 1, none⟩ = some S ∧ w1.cell? ⟨gb, 2, none⟩ = some v ∧ w1.frozen? ⟨gb, 2, none⟩ = false := by
  have hne : some gb ≠ v.ownBlock := fun e => by
    obtain ⟨cs, hc⟩ := hv.is e.symm
    rw [hb] at hc
    injection hc with hc
    injection hc with _ h3 _
    exact absurd h3 (by decide)
  have hb1 : BoxC #[F, S, v] 60 gb w1 := (hg.block _ (lt_of_heap hb) hne).trans hb
  exact ⟨hb1.cell rfl, hb1.cell rfl, hb1.cell rfl, hb1.froz 2⟩
set_option maxRecDepth 100000 in
set_option maxHeartbeats 4000000 in
theorem collect_any {w0 w : World} {gb : Nat} {F S : Value} {L D : List Kon} (hS : GenSt w0 gb F S L w) (A : Option Addr) (n c : Nat) (hn : n = D.length) (hD : StrAt konC 9 w A D) (hc : A = none → c = 0) (hA : KArgs w D) (hl : L.length + D.length ≤ 100000000000) :
    Calls Tryz.prog 29 #[.pointer (some ⟨gb, 0, none⟩), .slice A n c] w fun e w' => e = .returned (.tuple #[]) ∧ GenSt w0 gb F S (L ++ D) w' ∧ FrK w w' := by
  have HS := Lib.hid hS
  have HD := Lib.hid hD
  have HC := Lib.hid hc
  have HA := Lib.hid hA
  obtain ⟨hgr, hlt, ⟨v, hb, hv⟩, hK⟩ := hS
  obtain ⟨V, c0, rfl, hV⟩ := hv.at_
  have HV := Lib.hid hv
  have HB := Lib.hid hb
  have HW := Lib.hid hgr.size
  have b2 : w.cell? ⟨gb, 2, none⟩ = some (.slice V L.length c0) := by rw [cell_of_row _ _ _ _ _ _ hb]; rfl
  have z2 : w.frozen? ⟨gb, 2, none⟩ = false := (show BoxC _ _ _ _ from hb).froz 2
  have lb := lt_of_heap hb
  clear hD hc hA hgr hlt hb hv hK hV
  go_enter Tryz.func29, Tryz.ntmps29
  go_wp2_with (at_builtin; go_must (refine app_kons rfl (.tmp 8) (.tmp 9) rfl w0.heap.size (.slice V L.length c0) L D rfl HV.out A c n hn rfl HD.out HC.out hl HW.out ?_; intro v1 w1 ho1 hg1; obtain ⟨A1, c1, hv1, _, _⟩ := ho1.out.at_; rw [List.length_append] at hv1; subst hv1; have HE := Lib.hid (collect_end HS.out HA.out HB.out HV.out ho1.out hg1.out); obtain ⟨_, _, z1, z2'⟩ := gen_kept HB.out HV.out hg1.out; clear z2 b2))
  all_goals (try go_wp2_with fail)
  go_end0
  exact ⟨rfl, HE.out.1, HE.out.2⟩

set_option maxRecDepth 100000 in
set_option maxHeartbeats 4000000 in
theorem result_any {p : Prg} {Sa : Option Addr} {Sc gb : Nat} {w : World} (hG : GenR p Sa Sc gb w) (hs : SmallF p.fns) (k : Nat) (hk : k < p.fns.length) :
    Calls Tryz.prog 34 #[.pointer (some ⟨gb, 0, none⟩), .int .i64 k] w fun e w' => e = .returned (.int .i64 (tellK p.fns k)) ∧ w.grownBy w' none := by
  obtain ⟨ad, rfl, c1⟩ := hG.first hk
  obtain ⟨fa, fae, _, f1, _⟩ := fun_cells hG.fns hk
  have hf := List.getElem?_eq_getElem hk
  have c0 := hG.h0
  have c3 := hG.h1
  rw [fae] at c0
  generalize p.fns[k]'hk = f at *
  have ht : tellK p.fns k = fstK p.fns k + f.regs := by unfold tellK; rw [fstK_succ hf]; omega
  have hb := hs.fst k
  have hr := hs.2 f (List.mem_of_getElem? hf)
  have hw : IntKind.i64.wrap (fstK p.fns k + f.regs) = fstK p.fns k + f.regs := by rw [IntKind.wrap_i64]; omega
  rw [ht]
  have HW := Lib.hid hw
  generalize fstK p.fns k = s at *
  generalize p.fns.length = n at *
  clear hG hs hf fae hb hr ht
  go_enter Tryz.func34, Tryz.ntmps34
  go_wp2_with go_region
  go_ret
  exact ⟨rfl, by repeat (first | with_reducible exact grownBy_refl _ _ | with_reducible assumption | with_reducible refine World.grownBy.gr_drew ?_ | with_reducible refine World.grownBy.gr_set ?_ (by simp) _ | with_reducible refine gr_alloc ?_ _)⟩
set_option maxRecDepth 100000 in
set_option maxHeartbeats 4000000 in
theorem variables_any {p : Prg} {Sa : Option Addr} {Sc gb : Nat} {w : World} (hG : GenR p Sa Sc gb w) (k : Nat) (hk : k < p.fns.length) (A : Option Addr) (c : Nat) (l : List Int) (hl : IntsAt w A l.length c l) (hle : l.length ≤ 4000) :
    Calls Tryz.prog 33 #[.pointer (some ⟨gb, 0, none⟩), .int .i64 k, .slice A l.length c] w fun e w' => ∃ B m, e = .returned (.slice B l.length m) ∧ ArgsAt w' B l.length m (l.map fun x => wz (fstK p.fns k + x)) ∧ w.grownBy w' none := by
  obtain ⟨ad, rfl, c1⟩ := hG.first hk
  have c3 := hG.h1
  generalize fstK p.fns k = s at *
  generalize p.fns.length = n at *
  have HC1 := Lib.hid c1
  have HC3 := Lib.hid c3
  have HL := Lib.hid hl
  clear hG hl
  go_enter Tryz.func33, Tryz.ntmps33
  go_wp2_with fail
  go_loopw [7, 12] (fun v i wr => ∃ q : Nat, q ≤ l.length ∧ i = .int .i64 q ∧ OwN w.heap.size wr v ((l.take q).map fun x => wz (s + x)) ∧ w.grownBy wr none) (fun v i _ => l.length - (intOf i).toNat)
  case atStart => exact ⟨0, Nat.zero_le _, rfl, OwN.nil _ _, grownBy_refl _ _⟩
  case round =>
    obtain ⟨q, hq, rfl, ho, hg⟩ := hrel
    have hlen : ((l.take q).map fun x => wz (s + x)).length = q := by simp; omega
    obtain ⟨V, d, hv, _⟩ := ho.args
    rw [hlen] at hv
    subst hv
    have HO := Lib.hid ho
    have HG := Lib.hid hg
    have HLEN := Lib.hid hlen
    clear ho hg c1 c3 hlen
    by_cases hlt : q < l.length
    · have hx := List.getElem?_eq_getElem hlt
      have c1 := (CellsK.of HG.out).2 _ _ HC1.out
      have c3 := (CellsK.of HG.out).2 _ _ HC3.out
      obtain ⟨la, rfl, c4⟩ := (HL.out.keep (CellsK.of HG.out)).cellAt hx
      generalize l[q]'hlt = x at *
      have HX := Lib.hid hx
      have HQ := Lib.hid (show IntKind.i64.wrap ((q : Int) + 1) = (q : Int) + 1 by rw [IntKind.wrap_i64]; omega)
      obtain ⟨z, hz⟩ : ∃ z, z = wz (s + x) := ⟨_, rfl⟩
      have hzz : IntKind.i64.wrap (s + x) = z := hz.symm
      have HZ := Lib.hid hz
      clear hx hz
      go_wp2_with (at_builtin; go_must (refine app_one rfl (.tmp 16) (.tmp 26) rfl w.heap.size (.slice V q d) ((l.take q).map fun x => wz (s + x)) rfl (HO.out.gr (gr_alloc (grownBy_refl wr none) _)) wr.heap.size z (0, 0) rfl (heap_alloc_new wr _) (by rw [HLEN.out]; omega) (by have := HG.out.size; simp; omega) ?_; intro v1 w1 ho1 hg1; obtain ⟨A1, c1', hv1, _⟩ := ho1.out.args; rw [List.length_append, HLEN.out] at hv1; subst hv1))
      refine ⟨⟨q + 1, hlt, rfl, ?_, gr_own (gr_alloc HG.out _) hg1.out fun k hk => (World.ownsRow.lt HO.out k hk).1⟩, by simp [intOf]; omega⟩
      rw [List.take_add_one, HX.out, List.map_append]
      rw [HZ.out] at ho1
      exact ho1.out
    · obtain rfl : q = l.length := by omega
      go_wp2_with fail
      go_ret
      have h1 := HO.out
      rw [List.take_of_length_le (Nat.le_refl _)] at h1
      obtain ⟨A1, c1, hv, h2⟩ := h1.args
      rw [List.length_map] at hv h2
      rw [hv]
      exact ⟨_, _, rfl, h2, HG.out⟩
end Go.Proofs.YtajmkdbokdjmeaaGreat
