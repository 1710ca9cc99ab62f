/- GenOnes: the turned program, in memory. -/
import Derived.Test.YtajmkdbokdjmeaaGreatCKo1
namespace Go.Proofs.YtajmkdbokdjmeaaGreat
open Go.RowKit
def qC (p : Prg) (g c : Nat) : Array Value := #[.slice p.sa p.sites.length p.sc, .slice (some ⟨g, 0, none⟩) p.fns.length c, .int .i64 p.main]
structure OnSt (p : Prg) (F : List Fun') (k i g c qb B : Nat) (w wr : World) : Prop where
  made ::
  ones : Ones p.fns F k i g wr
  row : wr.ownsRow B 39 5 (.slice (some ⟨g, 0, none⟩) p.fns.length c) p.fns.length (flatC funC F)
  qbox : BoxC (qC p g c) 25 qb wr
  pbox : BoxC (prgC p) 25 w.heap.size wr
  gr : w.grownBy wr none
  lq : qb < g
  lw : w.heap.size < g
theorem OnSt.keep {p : Prg} {F : List Fun'} {k i g c qb B : Nat} {w wr W : World} (h : OnSt p F k i g c qb B w wr) (q : wr.grownBy W none) : OnSt p F k i g c qb B w W :=
  ⟨h.ones.gr q, own_gr h.row q, h.qbox.gr q, h.pbox.gr q, grownBy_trans h.gr q, h.lq, h.lw⟩
theorem OnSt.skip {p : Prg} {F : List Fun'} {k g c qb B : Nat} {w wr : World} (h : OnSt p F k k g c qb B w wr) : OnSt p F k (k + 1) g c qb B w wr :=
  ⟨h.ones.skip, h.row, h.qbox, h.pbox, h.gr, h.lq, h.lw⟩
theorem OnSt.glt {p : Prg} {F : List Fun'} {k i g c qb B : Nat} {w wr : World} (h : OnSt p F k i g c qb B w wr) : g < wr.heap.size := (World.ownsRow.lt h.row g rfl).2
theorem OnSt.step {p : Prg} {F : List Fun'} {k i g c qb B : Nat} {w wr : World} {f : Fun'} (h : OnSt p F k i g c qb B w wr) (hf : p.fns[i]? = some f) (hn : i ≠ k) :
    OnSt p (F.set i (oneF f wr.heap.size)) k (i + 1) g c qb B w ((wr.alloc (.cells (insC retI) 36)).setCell ⟨g, i * 5 + 4, none⟩ (.slice (some ⟨wr.heap.size, 0, none⟩) 1 1)) := by
  have hg := h.glt
  have h1 := h.keep (gr_alloc (grownBy_refl wr none) (.cells (insC retI) 36))
  have hl : F.length = p.fns.length := h1.ones.len
  have hr := h1.row
  rw [← hl] at hr
  have hF : F[i]? = some f := h1.ones.same i f hf (.inl (Nat.le_refl _))
  have h2 := row_one (b := wr.heap.size) hr hF
  rw [hl] at h2
  exact ⟨h1.ones.step hf hn (BoxC.new wr _ _) (by omega), h2, h1.qbox.other (a := ⟨g, _, none⟩) (by show g ≠ qb; have := h.lq; omega) _, h1.pbox.other (a := ⟨g, _, none⟩) (by show g ≠ w.heap.size; have := h.lw; omega) _, h1.gr.gr_set (p := ⟨g, _, none⟩) (by show w.heap.size ≤ g; have := h.lw; omega) _, h.lq, h.lw⟩
theorem Ones.step3 {fs F : List Fun'} {n i g b : Nat} {W W' : World} {f : Fun'} (h : Ones fs F n i g W) (hi : fs[i]? = some f) (hn : i ≠ n) (hb : BoxC (insC retI) 36 b W') (hbg : b ≠ g) (hk : ∀ b', b' ≠ g → BoxC (insC retI) 36 b' W → BoxC (insC retI) 36 b' W') : Ones fs (F.set i (oneF f b)) n (i + 1) g W' := by
  have hil : i < F.length := by rw [h.len]; exact (List.getElem?_eq_some_iff.1 hi).1
  refine ⟨by rw [List.length_set]; exact h.len, fun j f' hj hc => ?_, fun j f' hj h1 h2 => ?_⟩
  · rw [List.getElem?_set_ne (by omega)]
    exact h.same j f' hj (by omega)
  · by_cases e : i = j
    · subst e
      rw [hi] at hj
      injection hj with hj
      subst hj
      exact ⟨b, List.getElem?_set_self hil, hbg, hb⟩
    · obtain ⟨b', e', hb', hx⟩ := h.turned j f' hj (by omega) h2
      exact ⟨b', by rw [List.getElem?_set_ne e]; exact e', hb', hk b' hb' hx⟩
theorem set_size' (w : World) (p : Addr) (v : Value) : (w.setCell p v).heap.size = w.heap.size := by simp [World.setCell]
theorem OnSt.step2 {p : Prg} {F : List Fun'} {k i g c qb B : Nat} {w wr : World} {f : Fun'} (h : OnSt p F k i g c qb B w wr) (hf : p.fns[i]? = some f) (hn : i ≠ k) :
    OnSt p (F.set i (oneF f wr.heap.size)) k (i + 1) g c qb B w ((wr.setCell ⟨g, i * 5 + 4, none⟩ (.slice (some ⟨wr.heap.size, 0, none⟩) 1 1)).alloc (.cells (insC retI) 36)) := by
  have hg := h.glt
  have ga := gr_alloc (grownBy_refl (wr.setCell ⟨g, i * 5 + 4, none⟩ (.slice (some ⟨wr.heap.size, 0, none⟩) 1 1)) none) (.cells (insC retI) 36)
  have hl : F.length = p.fns.length := h.ones.len
  have hr := h.row
  rw [← hl] at hr
  have hF : F[i]? = some f := h.ones.same i f hf (.inl (Nat.le_refl _))
  have h2 := row_one (b := wr.heap.size) hr hF
  rw [hl] at h2
  refine ⟨h.ones.step3 hf hn ?_ (by omega) fun b' hb' hx => (hx.other (a := ⟨g, _, none⟩) (fun e => hb' e.symm) _).gr ga, own_gr h2 ga, (h.qbox.other (a := ⟨g, _, none⟩) (by show g ≠ qb; have := h.lq; omega) _).gr ga, (h.pbox.other (a := ⟨g, _, none⟩) (by show g ≠ w.heap.size; have := h.lw; omega) _).gr ga, grownBy_trans (h.gr.gr_set (p := ⟨g, _, none⟩) (by show w.heap.size ≤ g; have := h.lw; omega) _) ga, h.lq, h.lw⟩
  exact alloc_at (by rw [set_size'])
theorem OnSt.cell {p : Prg} {F : List Fun'} {k i g c qb B : Nat} {w wr : World} (h : OnSt p F k i g c qb B w wr) {j : Nat} (hj : j < p.fns.length) : ∃ v, wr.cell? ⟨g, j * 5 + 4, none⟩ = some v := by
  have hl : F.length = p.fns.length := h.ones.len
  have hlt : j * 5 + 4 < p.fns.length * 5 := by omega
  have e := h.row.cellAt (j * 5 + 4) hlt
  have hlf : j * 5 + 4 < (flatC funC F).length := by rw [flat_len funC_size, hl]; exact hlt
  rw [List.getElem?_eq_getElem hlf] at e
  exact ⟨_, e⟩
/-- What the generator makes of the turned program. -/
theorem OnSt.gen {p : Prg} {F : List Fun'} {k g c qb B : Nat} {w wr : World} (h : OnSt p F k p.fns.length g c qb B w wr) (hp : PrgOk w p) (hk : GenOK p) {f : Fun'} (hf : p.fns[k]? = some f) :
    Calls Tryz.prog 14 #[.agg #[.slice p.sa p.sites.length p.sc, .slice (some ⟨g, 0, none⟩) p.fns.length c, .int .i64 p.main]] wr (GenRet wr ((genK p.fns p.fns.length).filter (ofF k))) := by
  have hl : F.length = p.fns.length := h.ones.len
  have h1 := Gen_any (onesP p F g c) wr (h.ones.prg hp h.gr h.row) (h.ones.ok hk)
  have h2 : genK (onesP p F g c).fns (onesP p F g c).fns.length = (genK p.fns p.fns.length).filter (ofF k) := by
    show genK F F.length = _
    rw [hl, h.ones.genEq hf _ (Nat.le_refl _), genK_filter hf _ (Nat.le_refl _)]
  rw [h2] at h1
  have h3 : prgV (onesP p F g c) = .agg #[.slice p.sa p.sites.length p.sc, .slice (some ⟨g, 0, none⟩) p.fns.length c, .int .i64 p.main] := by
    rw [← hl]
    rfl
  rw [h3] at h1
  exact h1
theorem infoFn : (Tryz.prog.info? 39).map (fun i => (i.zero, i.size, i.bytes)) = some (some (.agg #[.string ⟨#[]⟩, .int .i64 0, .int .i64 0, .slice none 0 0, .slice none 0 0]), 5, 80) := by kernel_rfl
theorem StrAt.of_ownV {base : Nat} {W : World} {A : Option Addr} {n c : Nat} {E : List Kon} (h : OwR base W (.slice A n c) E) : StrAt konC 9 W A E := by
  obtain ⟨A', c', e, _, hs⟩ := h.at_
  injection e with e1 _ _
  rw [e1]
  exact hs
theorem filter_take {P : Kon → Bool} {L : List Kon} {r : Nat} {x : Kon} (h : L[r]? = some x) : (L.take (r + 1)).filter P = (L.take r).filter P ++ (if P x then [x] else []) := by
  rw [List.take_add_one, h, List.filter_append]
  cases hp : P x <;> simp [hp]

end Go.Proofs.YtajmkdbokdjmeaaGreat
