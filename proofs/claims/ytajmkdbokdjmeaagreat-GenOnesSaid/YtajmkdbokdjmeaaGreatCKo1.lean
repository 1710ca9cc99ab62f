/- GenOnes, plain: the other functions do nothing. -/
import Derived.Test.YtajmkdbokdjmeaaGreatMkTop
namespace Go.Proofs.YtajmkdbokdjmeaaGreat
open Go.RowKit
def oneF (f : Fun') (b : Nat) : Fun' := ⟨f.name, f.regs, f.params, f.la, f.lc, f.locals, some ⟨b, 0, none⟩, 1, [retI]⟩
/-- Of the first i functions all but the n-th do nothing: their code lies in blocks of its own. -/
structure Ones (fs F : List Fun') (n i g : Nat) (W : World) : Prop where
  made ::
  len : F.length = fs.length
  same : ∀ j f, fs[j]? = some f → (i ≤ j ∨ j = n) → F[j]? = some f
  turned : ∀ j f, fs[j]? = some f → j < i → j ≠ n → ∃ b, F[j]? = some (oneF f b) ∧ b ≠ g ∧ BoxC (insC retI) 36 b W
theorem Ones.first (fs : List Fun') (n g : Nat) (W : World) : Ones fs fs n 0 g W := ⟨rfl, fun _ _ h _ => h, fun _ _ _ h => absurd h (Nat.not_lt_zero _)⟩
theorem Ones.gr {fs F : List Fun'} {n i g : Nat} {W W' : World} (h : Ones fs F n i g W) (k : W.grownBy W' none) : Ones fs F n i g W' :=
  ⟨h.len, h.same, fun j f hj h1 h2 => by obtain ⟨b, e, hb, hx⟩ := h.turned j f hj h1 h2; exact ⟨b, e, hb, hx.gr k⟩⟩
theorem Ones.skip {fs F : List Fun'} {n g : Nat} {W : World} (h : Ones fs F n n g W) : Ones fs F n (n + 1) g W :=
  ⟨h.len, fun j f hj hc => h.same j f hj (by omega), fun j f hj h1 h2 => h.turned j f hj (by omega) h2⟩
theorem Ones.step {fs F : List Fun'} {n i g b o : Nat} {W : World} {f : Fun'} {v : Value} (h : Ones fs F n i g W) (hi : fs[i]? = some f) (hn : i ≠ n) (hb : BoxC (insC retI) 36 b W) (hbg : b ≠ g) : Ones fs (F.set i (oneF f b)) n (i + 1) g (W.setCell ⟨g, o, none⟩ v) := by
  have hil : i < F.length := by rw [h.len]; exact (List.getElem?_eq_some_iff.1 hi).1
  refine ⟨by rw [List.length_set]; exact h.len, fun j f' hj hc => ?_, fun j f' hj h1 h2 => ?_⟩
  · rw [List.getElem?_set_ne (by omega)]
    exact h.same j f' hj (by omega)
  · by_cases e : i = j
    · subst e
      rw [hi] at hj
      injection hj with hj
      subst hj
      exact ⟨b, List.getElem?_set_self hil, hbg, hb.other (a := ⟨g, o, none⟩) (fun e => hbg e.symm) v⟩
    · obtain ⟨b', e', hb', hx⟩ := h.turned j f' hj (by omega) h2
      exact ⟨b', by rw [List.getElem?_set_ne e]; exact e', hb', hx.other (a := ⟨g, o, none⟩) (fun e => hb' e.symm) v⟩
theorem Ones.at_ {fs F : List Fun'} {n i g : Nat} {W : World} (h : Ones fs F n i g W) {j : Nat} {f : Fun'} (hj : fs[j]? = some f) : F[j]? = some f ∨ ∃ b, F[j]? = some (oneF f b) ∧ b ≠ g ∧ BoxC (insC retI) 36 b W := by
  by_cases hc : i ≤ j ∨ j = n
  · exact .inl (h.same j f hj hc)
  · exact .inr (h.turned j f hj (by omega) (by omega))
theorem Ones.back {fs F : List Fun'} {n i g : Nat} {W : World} (h : Ones fs F n i g W) {j : Nat} {f' : Fun'} (hj : F[j]? = some f') : ∃ f, fs[j]? = some f ∧ (f' = f ∨ ∃ b, f' = oneF f b ∧ b ≠ g ∧ BoxC (insC retI) 36 b W) := by
  have hl : j < fs.length := by rw [← h.len]; exact (List.getElem?_eq_some_iff.1 hj).1
  refine ⟨_, List.getElem?_eq_getElem hl, ?_⟩
  rcases h.at_ (List.getElem?_eq_getElem hl) with e | ⟨b, e, hb⟩
  · rw [hj] at e
    exact .inl (Option.some.inj e)
  · rw [hj] at e
    exact .inr ⟨b, Option.some.inj e, hb⟩
theorem regS_map : ∀ {l m : List Fun'}, l.map (·.regs) = m.map (·.regs) → regS l = regS m
  | [], [], _ => rfl
  | [], _ :: _, h => by simp at h
  | _ :: _, [], h => by simp at h
  | f :: l, g :: m, h => by
    simp only [List.map_cons, List.cons.injEq] at h
    show f.regs + 1 + regS l = g.regs + 1 + regS m
    rw [h.1, regS_map h.2]
theorem Ones.regs {fs F : List Fun'} {n i g : Nat} {W : World} (h : Ones fs F n i g W) : F.map (·.regs) = fs.map (·.regs) := by
  refine List.ext_getElem? fun j => ?_
  rw [List.getElem?_map, List.getElem?_map]
  rcases hj : fs[j]? with _ | f
  · have : F[j]? = none := by rw [List.getElem?_eq_none_iff, h.len]; exact List.getElem?_eq_none_iff.1 hj
    rw [this]
  · rcases h.at_ hj with e | ⟨b, e, _⟩
    · rw [e]
    · rw [e]; rfl
theorem Ones.fst {fs F : List Fun'} {n i g : Nat} {W : World} (h : Ones fs F n i g W) : fstK F = fstK fs := funext fun k => by
  unfold fstK
  refine regS_map ?_
  rw [List.map_take, List.map_take, h.regs]
theorem Ones.consEq {fs F : List Fun'} {n i g : Nat} {W : World} (h : Ones fs F n i g W) (k : Nat) (x : Ins) : consI F k x = consI fs k x := by
  unfold consI tellK
  rw [h.fst]
theorem Ones.codeEq {fs F : List Fun'} {n i g : Nat} {W : World} (h : Ones fs F n i g W) (k : Nat) (l : List Ins) (c : Nat) : codeK F k l c = codeK fs k l c := by
  unfold codeK
  simp only [h.consEq]
theorem codeK_ret (fs : List Fun') (k : Nat) : codeK fs k [retI] 1 = [] := rfl
theorem Ones.genEq {fs F : List Fun'} {n g : Nat} {W : World} (h : Ones fs F n fs.length g W) {f : Fun'} (hf : fs[n]? = some f) : ∀ k, k ≤ fs.length → genK F k = if n < k then codeK fs n f.code f.code.length else []
  | 0, _ => by rw [if_neg (Nat.not_lt_zero _)]; rfl
  | k + 1, hk => by
    have ih := Ones.genEq h hf k (by omega)
    have hx := List.getElem?_eq_getElem (show k < fs.length by omega)
    by_cases e : k = n
    · subst e
      rw [hx] at hf
      injection hf with hf
      rw [genK_succ (h.same k _ hx (.inr rfl)), ih, if_neg (Nat.lt_irrefl _), if_pos (Nat.lt_succ_self _), hf, List.nil_append, h.codeEq]
    · obtain ⟨b, eb, _⟩ := h.turned k _ hx (by omega) e
      rw [genK_succ eb, ih]
      show _ ++ codeK F k [retI] 1 = _
      rw [codeK_ret, List.append_nil]
      by_cases hl : n < k
      · rw [if_pos hl, if_pos (by omega)]
      · rw [if_neg hl, if_neg (by omega)]
def ofF (n : Nat) (c : Kon) : Bool := c.fn == (n : Int)
theorem codeK_fn {fs : List Fun'} {k : Nat} {l : List Ins} {c : Nat} {x : Kon} (h : x ∈ codeK fs k l c) : x.fn = (k : Int) := by
  unfold codeK at h
  obtain ⟨q, _, h4⟩ := List.mem_flatMap.1 h
  rcases hi : l[q]? with _ | i
  · rw [hi] at h4; simp at h4
  · rw [hi] at h4
    have h5 : x ∈ (consI fs k i).map (atK k q) := h4
    obtain ⟨d, hd, he⟩ := List.mem_map.1 h5
    rw [← he]
    rfl
theorem genK_filter {fs : List Fun'} {n : Nat} {f : Fun'} (hf : fs[n]? = some f) : ∀ k, k ≤ fs.length → (genK fs k).filter (ofF n) = if n < k then codeK fs n f.code f.code.length else []
  | 0, _ => by rw [if_neg (Nat.not_lt_zero _)]; rfl
  | k + 1, hk => by
    have ih := genK_filter hf k (by omega)
    have hx := List.getElem?_eq_getElem (show k < fs.length by omega)
    rw [genK_succ hx, List.filter_append, ih]
    by_cases e : k = n
    · subst e
      rw [hx] at hf
      injection hf with hf
      rw [if_neg (Nat.lt_irrefl _), if_pos (Nat.lt_succ_self _), hf, List.nil_append, List.filter_eq_self]
      intro x hx
      unfold ofF
      rw [codeK_fn hx]
      simp
    · have : (codeK fs k fs[k].code fs[k].code.length).filter (ofF n) = [] := by
        rw [List.filter_eq_nil_iff]
        intro x hx
        unfold ofF
        rw [codeK_fn hx]
        simp
        omega
      rw [this, List.append_nil]
      by_cases hl : n < k
      · rw [if_pos hl, if_pos (by omega)]
      · rw [if_neg hl, if_neg (by omega)]
theorem filter_bare {n : Nat} {L G : List Kon} (h : L.map bare = G) : (L.filter (ofF n)).map bare = G.filter (ofF n) := by
  subst h
  rw [List.filter_map]
  rfl
/-- The turned program. -/
def onesP (p : Prg) (F : List Fun') (g c : Nat) : Prg := ⟨p.sa, p.sc, p.sites, some ⟨g, 0, none⟩, c, F, p.main⟩
theorem retI_small (m : Nat) : SmallI m retI := ⟨fun h => by exact absurd h (by decide), fun h => by exact absurd h (by decide)⟩
theorem Ones.ok {p : Prg} {F : List Fun'} {n i g c : Nat} {W : World} (h : Ones p.fns F n i g W) (hp : GenOK p) : GenOK (onesP p F g c) := by
  refine ⟨⟨by show F.length ≤ 200; rw [h.len]; exact hp.small.1, fun f' hf' => ?_⟩, fun f' hf' x hx => ?_⟩
  · obtain ⟨j, hj⟩ := List.getElem?_of_mem hf'
    obtain ⟨f, hf, e⟩ := h.back hj
    have h1 := hp.small.2 f (List.mem_of_getElem? hf)
    rcases e with rfl | ⟨b, rfl, _⟩
    · exact h1
    · exact ⟨h1.1, h1.2.1, by show 1 ≤ 4000; omega⟩
  · obtain ⟨j, hj⟩ := List.getElem?_of_mem hf'
    obtain ⟨f, hf, e⟩ := h.back hj
    have hl : (onesP p F g c).fns.length = p.fns.length := h.len
    rw [hl]
    rcases e with rfl | ⟨b, rfl, _⟩
    · exact hp.ins f' (List.mem_of_getElem? hf) x hx
    · obtain rfl := List.mem_singleton.1 (show x ∈ [retI] from hx)
      exact retI_small _
theorem ret_at {b : Nat} {W : World} (h : BoxC (insC retI) 36 b W) : StrAt insC 8 W (some ⟨b, 0, none⟩) [retI] := by
  refine .inr ⟨_, rfl, fun j x hx i u hu => ?_⟩
  have hj : j < 1 := (List.getElem?_eq_some_iff.1 hx).1
  obtain rfl : j = 0 := by omega
  simp at hx
  subst hx
  rw [add_none, cell_of_row _ _ _ _ _ _ h]
  rw [show 0 + (0 * 8 + i) = i by omega]
  exact hu
/-- The turned program in memory. -/
theorem Ones.prg {p : Prg} {F : List Fun'} {n i g c B : Nat} {w W : World} (h : Ones p.fns F n i g W) (hp : PrgOk w p) (hg : w.grownBy W none)
    (hr : W.ownsRow B 39 5 (.slice (some ⟨g, 0, none⟩) p.fns.length c) p.fns.length (flatC funC F)) : PrgOk W (onesP p F g c) := by
  have hk := hp.keep (CellsK.of hg)
  have hl : F.length = p.fns.length := h.len
  refine ⟨hk.1, by show F.length ≤ maxLen; rw [hl]; exact hk.2.1, hk.2.2.1, ?_, fun f' hf' => ?_⟩
  · rw [← hl] at hr
    exact StrAt.of_own funC_size hr
  · obtain ⟨j, hj⟩ := List.getElem?_of_mem hf'
    obtain ⟨f, hf, e⟩ := h.back hj
    have h1 := hk.2.2.2.2 f (List.mem_of_getElem? hf)
    rcases e with rfl | ⟨b, rfl, _, hb⟩
    · exact h1
    · exact ⟨h1.1, h1.2.1, by show 1 ≤ maxLen; unfold maxLen; omega, ret_at hb, fun x hx => by
        obtain rfl := List.mem_singleton.1 (show x ∈ [retI] from hx)
        exact ⟨IntsAt.nil W, by show 0 * 8 ≤ _; omega⟩⟩
theorem row_put1 {w : World} {B e g n cap k : Nat} {c1 c2 : List Value} {x0 x1 x2 x3 x4 : Value} (h : w.ownsRow B e 5 (.slice (some ⟨g, 0, none⟩) n cap) n (c1 ++ ([x0, x1, x2, x3, x4] ++ c2))) (hk : c1.length = k * 5) (y4 : Value) :
    (w.setCell ⟨g, k * 5 + 4, none⟩ y4).ownsRow B e 5 (.slice (some ⟨g, 0, none⟩) n cap) n (c1 ++ ([x0, x1, x2, x3, y4] ++ c2)) := by
  refine ⟨by have := h.1; simp at this ⊢; omega, ?_⟩
  rcases h.2 with ⟨h0, _⟩ | ⟨g', cap', cur, hv, hg, hh, hn, hc, hs, ht⟩
  · cases h0
  · simp only [Value.slice.injEq, Option.some.injEq, Addr.mk.injEq] at hv
    obtain ⟨⟨rfl, _, _⟩, _, rfl⟩ := hv
    refine .inr ⟨g, cap, cur.setIfInBounds (k * 5 + 4) y4, rfl, hg, ?_, hn, hc, by simpa using hs, ?_⟩
    · simp [World.setCell, Array.getElem?_modify, hh]
    · simp only [Array.toList_setIfInBounds, List.take_set, ht]
      rw [List.set_append_right _ _ (by omega), hk, show k * 5 + 4 - k * 5 = 4 by omega]
      rfl
/-- The row with one function turned. -/
theorem row_one {w : World} {B g cap i b : Nat} {F : List Fun'} {f : Fun'} (h : w.ownsRow B 39 5 (.slice (some ⟨g, 0, none⟩) F.length cap) F.length (flatC funC F)) (hf : F[i]? = some f) :
    (w.setCell ⟨g, i * 5 + 4, none⟩ (.slice (some ⟨b, 0, none⟩) 1 1)).ownsRow B 39 5 (.slice (some ⟨g, 0, none⟩) F.length cap) F.length (flatC funC (F.set i (oneF f b))) := by
  obtain ⟨d1, d2, hd, e1, e2⟩ := flat_set hf
  rw [e2]
  rw [e1] at h
  exact row_put1 (x0 := .string f.name) (x1 := .int .i64 f.regs) (x2 := .int .i64 f.params) (x3 := .slice f.la f.locals.length f.lc) (x4 := .slice f.ca f.code.length f.cc) h hd (.slice (some ⟨b, 0, none⟩) 1 1)

end Go.Proofs.YtajmkdbokdjmeaaGreat
