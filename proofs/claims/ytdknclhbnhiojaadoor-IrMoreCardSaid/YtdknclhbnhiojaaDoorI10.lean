/- ir: programs in memory; the kind of a site. -/
import Derived.Test.YtdknclhbnhiojaaDoorI7
namespace Go.Proofs.YtdknclhbnhiojaaDoor
open Go.RowKit
structure Sit where
  kind : Int
  size : Int
  func : Int
  name : ByteArray
  tk : Int
  tn : Int
  tname : ByteArray
  toa : Option Addr
  ton : Nat
  toc : Nat
def sitC (s : Sit) : Array Value := #[.int .i64 s.kind, .int .i64 s.size, .int .i64 s.func, .string s.name, .int .i64 s.tk, .int .i64 s.tn, .string s.tname, .slice s.toa s.ton s.toc]
structure Fun' where
  name : ByteArray
  regs : Int
  params : Int
  la : Option Addr
  lc : Nat
  locals : List Int
  ca : Option Addr
  cc : Nat
  code : List Ins
def funC (f : Fun') : Array Value := #[.string f.name, .int .i64 f.regs, .int .i64 f.params, .slice f.la f.locals.length f.lc, .slice f.ca f.code.length f.cc]
def funV (f : Fun') : Value := .agg (funC f)
structure Prg where
  sa : Option Addr
  sc : Nat
  sites : List Sit
  fa : Option Addr
  fc : Nat
  fns : List Fun'
  main : Int
def prgC (p : Prg) : Array Value := #[.slice p.sa p.sites.length p.sc, .slice p.fa p.fns.length p.fc, .int .i64 p.main]
def prgV (p : Prg) : Value := .agg (prgC p)
/-- Structs of m cells each, one behind the other. -/
def StrAt {α : Type} (C : α → Array Value) (m : Nat) (w : World) (A : Option Addr) (l : List α) : Prop :=
  l = [] ∨ ∃ ad, A = some ad ∧ ∀ j x, l[j]? = some x → ∀ k u, (C x)[k]? = some u → w.cell? (ad.add (j * m + k)) = some u
theorem StrAt.keep {α : Type} {C : α → Array Value} {m : Nat} {w w' : World} {A : Option Addr} {l : List α} (h : StrAt C m w A l) (k : CellsK w w') : StrAt C m w' A l :=
  h.imp id fun ⟨ad, e, hc⟩ => ⟨ad, e, fun j x hx i u hu => k.2 _ _ (hc j x hx i u hu)⟩
theorem add_pos (a : Addr) (i j : Nat) (hj : 0 < j) : a.add (i + j) = ⟨(a.add i).block, (a.add i).off + j, none⟩ := by
  unfold Addr.add
  have h1 : ¬ i + j = 0 := by omega
  by_cases hi : i = 0
  · subst hi; simp [h1]; omega
  · simp [h1, hi]; omega
theorem StrAt.at_ {α : Type} {C : α → Array Value} {m : Nat} {w : World} {A : Option Addr} {l : List α} (h : StrAt C m w A l) {j : Nat} (hj : j < l.length) :
    ∃ ad, A = some ad ∧ (∀ u, (C l[j])[0]? = some u → w.cell? (ad.add (j * m)) = some u) ∧ ∀ k u, (C l[j])[k + 1]? = some u → w.cell? ⟨(ad.add (j * m)).block, (ad.add (j * m)).off + (k + 1), none⟩ = some u := by
  rcases h with rfl | ⟨ad, e, hc⟩
  · exact absurd hj (by simp)
  · exact ⟨ad, e, fun u hu => hc j _ (List.getElem?_eq_getElem hj) 0 u hu, fun k u hu => by rw [← add_pos _ _ _ (by omega)]; exact hc j _ (List.getElem?_eq_getElem hj) (k + 1) u hu⟩
/-- What an instruction's list of arguments asks. -/
def InsOk (w : World) (i : Ins) : Prop := IntsAt w i.aa i.an i.ac i.args ∧ i.args.length * 8 ≤ 140737488351232
def FunOk (w : World) (f : Fun') : Prop := IntsAt w f.la f.locals.length f.lc f.locals ∧ f.locals.length ≤ maxLen ∧ f.code.length ≤ maxLen ∧ StrAt insC 8 w f.ca f.code ∧ ∀ i ∈ f.code, InsOk w i
def PrgOk (w : World) (p : Prg) : Prop := p.sites.length ≤ maxLen ∧ p.fns.length ≤ maxLen ∧ StrAt sitC 8 w p.sa p.sites ∧ StrAt funC 5 w p.fa p.fns ∧ ∀ f ∈ p.fns, FunOk w f
theorem InsOk.keep {w w' : World} {i : Ins} (h : InsOk w i) (k : CellsK w w') : InsOk w' i := ⟨h.1.keep k, h.2⟩
theorem FunOk.keep {w w' : World} {f : Fun'} (h : FunOk w f) (k : CellsK w w') : FunOk w' f := ⟨h.1.keep k, h.2.1, h.2.2.1, h.2.2.2.1.keep k, fun i hi => (h.2.2.2.2 i hi).keep k⟩
theorem PrgOk.keep {w w' : World} {p : Prg} (h : PrgOk w p) (k : CellsK w w') : PrgOk w' p := ⟨h.1, h.2.1, h.2.2.1.keep k, h.2.2.2.1.keep k, fun f hf => (h.2.2.2.2 f hf).keep k⟩
/-- A block that holds just these cells. -/
def BoxC (C : Array Value) (t : TypeId) (b : Nat) (w : World) : Prop := w.heap[b]? = some (.cells C t (0, 0))
theorem BoxC.gr {C : Array Value} {t b : Nat} {w w' : World} (h : BoxC C t b w) (g : w.grownBy w' none) : BoxC C t b w' := (g.block b (lt_of_heap h) (by simp)).trans h
theorem BoxC.new (w : World) (C : Array Value) (t : TypeId) : BoxC C t w.heap.size (w.alloc (.cells C t)) := heap_alloc_new w _
theorem BoxC.cell {C : Array Value} {t b : Nat} {w : World} (h : BoxC C t b w) {k : Nat} {u : Value} (hu : C[k]? = some u) : w.cell? ⟨b, k, none⟩ = some u := by rw [cell_of_row w b k _ _ _ h]; exact hu
theorem boxP {p : Prg} {b : Nat} {w : World} (h : BoxC (prgC p) 34 b w) : w.cell? ⟨b, 0, none⟩ = some (.slice p.sa p.sites.length p.sc) ∧ w.cell? ⟨b, 1, none⟩ = some (.slice p.fa p.fns.length p.fc) ∧ w.cell? ⟨b, 2, none⟩ = some (.int .i64 p.main) :=
  ⟨h.cell rfl, h.cell rfl, h.cell rfl⟩
theorem boxF {f : Fun'} {b : Nat} {w : World} (h : BoxC (funC f) 43 b w) : w.cell? ⟨b, 0, none⟩ = some (.string f.name) ∧ w.cell? ⟨b, 1, none⟩ = some (.int .i64 f.regs) ∧ w.cell? ⟨b, 2, none⟩ = some (.int .i64 f.params) ∧ w.cell? ⟨b, 3, none⟩ = some (.slice f.la f.locals.length f.lc) ∧ w.cell? ⟨b, 4, none⟩ = some (.slice f.ca f.code.length f.cc) :=
  ⟨h.cell rfl, h.cell rfl, h.cell rfl, h.cell rfl, h.cell rfl⟩
/-- The kind of a site; 0: there is none. -/
def kindP (p : Prg) (n : Int) : Int := if 0 ≤ n then (p.sites[n.toNat]?.map (·.kind)).getD 0 else 0
theorem kindP_in {p : Prg} {k : Nat} (h : k < p.sites.length) : kindP p k = p.sites[k].kind := by
  unfold kindP
  rw [if_pos (by omega)]
  simp [h]
theorem kindP_out {p : Prg} {n : Int} (h : n < 0 ∨ (p.sites.length : Int) ≤ n) : kindP p n = 0 := by
  unfold kindP
  by_cases h0 : 0 ≤ n
  · rw [if_pos h0, List.getElem?_eq_none (by omega)]; rfl
  · rw [if_neg h0]
set_option maxRecDepth 100000 in
set_option maxHeartbeats 2000000 in
theorem Kind_any (p : Prg) (n : Int) (w : World) (hp : PrgOk w p) :
    Calls Tryd.prog 26 #[prgV p, .int .i64 n] w fun e w' => e = .returned (.int .i64 (kindP p n)) ∧ w.grownBy w' none := by
  have hs := hp.2.2.1
  have hl := hp.1
  unfold prgV prgC
  by_cases h0 : n < 0
  · rw [kindP_out (.inl h0)]
    have g0 : decide (n < 0) = true := by simpa using h0
    clear h0 hp hs
    go_enter Tryd.func26, Tryd.ntmps26
    go_wp2_with fail
    go_ret
    exact ⟨rfl, by repeat (first | with_reducible exact grownBy_refl _ _ | with_reducible assumption | with_reducible refine World.grownBy.gr_drew ?_ | with_reducible refine World.grownBy.gr_set ?_ (by simp) _ | with_reducible refine gr_alloc ?_ _)⟩
  · by_cases h1 : (p.sites.length : Int) ≤ n
    · rw [kindP_out (.inr h1)]
      have g0 : decide (n < 0) = false := by simpa using h0
      clear h0 hp hs
      go_enter Tryd.func26, Tryd.ntmps26
      go_wp2_with fail
      go_ret
      exact ⟨rfl, by repeat (first | with_reducible exact grownBy_refl _ _ | with_reducible assumption | with_reducible refine World.grownBy.gr_drew ?_ | with_reducible refine World.grownBy.gr_set ?_ (by simp) _ | with_reducible refine gr_alloc ?_ _)⟩
    · obtain ⟨k, rfl⟩ : ∃ k : Nat, n = k := ⟨n.toNat, by omega⟩
      have hk : k < p.sites.length := by omega
      rw [kindP_in hk]
      obtain ⟨ad, ha, hc, _⟩ := (hs.keep (CellsK.alloc w (.cells (prgC p) 34))).at_ hk
      have c0 := hc (.int .i64 p.sites[k].kind) rfl
      rw [ha]
      unfold prgC at c0
      rw [ha] at c0
      clear hp hs hc h0 h1
      go_enter Tryd.func26, Tryd.ntmps26
      go_wp2_with fail
      go_ret
      exact ⟨rfl, by repeat (first | with_reducible exact grownBy_refl _ _ | with_reducible assumption | with_reducible refine World.grownBy.gr_drew ?_ | with_reducible refine World.grownBy.gr_set ?_ (by simp) _ | with_reducible refine gr_alloc ?_ _)⟩
set_option maxRecDepth 100000 in
set_option maxHeartbeats 2000000 in
theorem isSite_any (p : Prg) (n kd : Int) (hkd : kd ≠ 0) (w : World) (hp : PrgOk w p) :
    Calls Tryd.prog 29 #[prgV p, .int .i64 n, .int .i64 kd] w fun e w' => e = .returned (.bool (kindP p n == kd)) ∧ w.grownBy w' none := by
  have hs := hp.2.2.1
  have hl := hp.1
  unfold prgV prgC
  by_cases h1 : n < 0 ∨ (p.sites.length : Int) ≤ n
  · rw [kindP_out h1, show ((0 : Int) == kd) = false by simpa using Ne.symm hkd]
    have HB := Lib.hid (show inB n (p.sites.length : Int) = false by unfold inB; simp; omega)
    clear h1 hp hs hkd
    go_enter Tryd.func29, Tryd.ntmps29
    go_wp2_with fail
    refine (within64_any _ _ _).mono ?_
    rintro e w1 ⟨rfl, rfl⟩
    rw [HB.out]
    go_wp2_with fail
    go_ret
    exact ⟨rfl, by repeat (first | with_reducible exact grownBy_refl _ _ | with_reducible assumption | with_reducible refine World.grownBy.gr_drew ?_ | with_reducible refine World.grownBy.gr_set ?_ (by simp) _ | with_reducible refine gr_alloc ?_ _)⟩
  · obtain ⟨k, rfl⟩ : ∃ k : Nat, n = k := ⟨n.toNat, by omega⟩
    have hk : k < p.sites.length := by omega
    have HB := Lib.hid (show inB (k : Int) (p.sites.length : Int) = true by unfold inB; simp; omega)
    rw [kindP_in hk]
    obtain ⟨ad, ha, hc, _⟩ := (hs.keep (CellsK.alloc w (.cells (prgC p) 34))).at_ hk
    have c0 := hc (.int .i64 p.sites[k].kind) rfl
    rw [ha]
    unfold prgC at c0
    rw [ha] at c0
    clear hp hs hc h1 hkd
    go_enter Tryd.func29, Tryd.ntmps29
    go_wp2_with fail
    refine (within64_any _ _ _).mono ?_
    rintro e w1 ⟨rfl, rfl⟩
    rw [HB.out]
    go_wp2_with fail
    go_ret
    exact ⟨rfl, by repeat (first | with_reducible exact grownBy_refl _ _ | with_reducible assumption | with_reducible refine World.grownBy.gr_drew ?_ | with_reducible refine World.grownBy.gr_set ?_ (by simp) _ | with_reducible refine gr_alloc ?_ _)⟩
/-- Are the first sites those of the functions, and no other one? -/
def sitesB (p : Prg) (k : Nat) : Bool := (List.range k).all fun j => decide ((kindP p j = 4) ↔ j < p.fns.length)
def eachB (p : Prg) : Bool := decide (p.fns.length ≤ p.sites.length) && sitesB p p.sites.length
theorem sitesB_succ (p : Prg) (k : Nat) : sitesB p (k + 1) = (sitesB p k && decide ((kindP p k = 4) ↔ k < p.fns.length)) := by
  unfold sitesB
  rw [List.range_succ, List.all_append]
  simp
theorem sitesB_false {p : Prg} {k : Nat} (hk : k < p.sites.length) (h : ¬ ((kindP p k = 4) ↔ k < p.fns.length)) : sitesB p p.sites.length = false := by
  unfold sitesB
  rw [List.all_eq_false]
  exact ⟨k, by simpa using hk, by simpa using h⟩

end Go.Proofs.YtdknclhbnhiojaaDoor
