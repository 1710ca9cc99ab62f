/- An argument that is a program. -/
import Derived.Test.YtdknclhbnhiojaaDoorIV1
import Derived.Test.YtdknclhbnhiojaaDoorI18
import Derived.Deep.Slices
import Derived.SizedLaws
namespace Go.Proofs.YtdknclhbnhiojaaDoor
open Go.ChangeShapes Go.WideShapes Go.ChangeAt Go.RowKit Go.Deep
theorem lists_of {α : Type} {P : Nat → α → Prop} : ∀ (n : Nat), (∀ j, j < n → ∃ x, P j x) → ∃ l : List α, l.length = n ∧ ∀ j x, l[j]? = some x → P j x
  | 0, _ => ⟨[], rfl, fun j x h => by simp at h⟩
  | n + 1, h => by
    obtain ⟨l, hl, hp⟩ := lists_of n (fun j hj => h j (by omega))
    obtain ⟨y, hy⟩ := h n (by omega)
    refine ⟨l ++ [y], by simp [hl], fun j x hx => ?_⟩
    by_cases hj : j < l.length
    · rw [List.getElem?_append_left hj] at hx
      exact hp j x hx
    · have : j < (l ++ [y]).length := (List.getElem?_eq_some_iff.1 hx).1
      simp at this
      obtain rfl : j = l.length := by omega
      simp at hx
      subst hx
      rw [hl]
      exact hy
theorem cFn : Tryd.prog.cellsOf 43 = 5 := by kernel_rfl
theorem cSite : Tryd.prog.cellsOf 59 = 8 := by kernel_rfl
theorem cT : Tryd.prog.cellsOf 57 = 4 := by kernel_rfl
theorem cProg : Tryd.prog.cellsOf 34 = 3 := by kernel_rfl
theorem csT : Tryd.prog.cellsOf 55 = 1 := by kernel_rfl
theorem csSite : Tryd.prog.cellsOf 31 = 1 := by kernel_rfl
theorem csFn : Tryd.prog.cellsOf 32 = 1 := by kernel_rfl
theorem csInsn : Tryd.prog.cellsOf 41 = 1 := by kernel_rfl
section
variable {H : Type} {enc : TypeId × Value → H} {W : World} {base : Nat} {sp : Nat → Bool} {held : Bool}
/-- Each weight of a datum is within reach. -/
def Wt (t : TypeId) (d : DataW H) : Prop := ∀ n ∈ d.weights Tryd.prog t, n ≤ reachBytes
theorem wt_all {e : TypeId} : ∀ {l : List (DataW H)} {d : DataW H}, d ∈ l → ∀ n ∈ d.weights Tryd.prog e, n ∈ DataW.weightsAll Tryd.prog e l
  | [], _, h, _, _ => by cases h
  | x :: r, d, h, n, hn => by
    unfold DataW.weightsAll
    rcases List.mem_cons.1 h with rfl | h
    · exact List.mem_append_left _ hn
    · exact List.mem_append_right _ (wt_all h n hn)
theorem wt_elem {t e : TypeId} {l s : List (DataW H)} {d : DataW H} (ht : Tryd.prog.underlying t = some (.slice e)) (h : Wt t (DataW.slice l s)) (hd : d ∈ l) : Wt e d := by
  intro n hn
  refine h n ?_
  unfold DataW.weights
  rw [ht]
  exact List.mem_cons_of_mem _ (List.mem_append_left _ (wt_all hd n hn))
theorem wt_field {t u : TypeId} {fs : Array Field} {l : List (DataW H)} {d : DataW H} {j : Nat} (ht : Tryd.prog.underlying t = some (.struct fs)) (h : Wt t (DataW.agg l)) (hj : (fs.toList.map (·.type))[j]? = some u) (hd : l[j]? = some d) : Wt u d := by
  intro n hn
  refine h n ?_
  unfold DataW.weights
  rw [ht]
  exact DataW.weights_mem_each hj hd n hn
theorem open_insn_ok {n : Nat} {cs : List Value} {x : DataW H × List MemPlace} (h : DataW.trod enc Tryd.prog W base sp held n 24 cs = some x) (hw : Wt 24 x.1) :
    ∃ i : Ins, cs = (insC i).toList ∧ InsOk W i := by
  obtain ⟨i, hc, hI, d0, d1, d2, d3, d4, d5, d6, d7, hx, hd⟩ := open_insn h
  refine ⟨i, hc, hI, ?_⟩
  rcases hd with ⟨_, h0⟩ | ⟨el, spr, rfl, hl⟩
  · rw [h0]; simp
  · rw [hx] at hw
    have h7 : Wt 22 (DataW.slice el spr) := wt_field (j := 7) Tryd.underlying24 hw rfl rfl
    have m3 := h7 ((el.length + spr.length) * Tryd.prog.bytesOf 3) (by unfold DataW.weights; rw [Tryd.underlying22]; simp)
    rw [show Tryd.prog.bytesOf 3 = 8 by kernel_rfl] at m3
    unfold reachBytes at m3
    omega
/-- A slice of structs of m cells, opened. -/
theorem open_structs {α : Type} {C : α → Array Value} {m : Nat} {t e : TypeId} {Q : α → Prop} {n : Nat} {cs : List Value} {x : DataW H × List MemPlace} (ht : Tryd.prog.underlying t = some (.slice e)) (hm0 : Tryd.prog.cellsOf e = m)
    (hel : ∀ (n : Nat) (cs : List Value) (y : DataW H × List MemPlace), DataW.trod enc Tryd.prog W base sp held n e cs = some y → Wt e y.1 → ∃ a : α, cs = (C a).toList ∧ Q a) (hsz : ∀ a, (C a).size = m)
    (h : DataW.trod enc Tryd.prog W base sp held n t cs = some x) (hw : Wt t x.1) :
    ∃ A cap l, cs = [.slice A l.length cap] ∧ l.length ≤ maxLen ∧ StrAt C m W A l ∧ ∀ a ∈ l, Q a := by
  rcases open_slice ht h with ⟨rfl, rfl⟩ | ⟨a, len, cap, mm, n', D, Pl, rfl, hb, hl, hm, hmm, rfl, hi⟩
  · exact ⟨none, 0, [], rfl, Nat.zero_le _, .inl rfl, fun a h => by cases h⟩
  · have hlm : len ≤ mm := by rw [hmm]; split <;> omega
    obtain ⟨l, hll, hp⟩ := lists_of (P := fun j y => (∀ k u, (C y)[k]? = some u → W.cell? (a.add (j * m + k)) = some u) ∧ Q y) len (fun j hj => by
      obtain ⟨cs', hc, htr⟩ := hi j (by omega)
      rw [hm0] at hc
      obtain ⟨y, rfl, hq⟩ := hel _ _ _ htr (wt_elem ht hw (List.mem_map.2 ⟨j, by simpa using hj, rfl⟩))
      obtain ⟨_, _, hat⟩ := World.cells?_some hc
      refine ⟨y, fun k u hu => ?_, hq⟩
      have hk : k < m := by have := (Array.getElem?_eq_some_iff.1 hu).1; rw [hsz] at this; exact this
      have h1 := hat k hk
      rw [add_add] at h1
      rw [h1, Array.getElem?_toList]
      exact hu)
    subst hll
    refine ⟨some a, cap, l, rfl, by omega, .inr ⟨a, rfl, fun j y hy => (hp j y hy).1⟩, fun y hy => ?_⟩
    obtain ⟨j, hj⟩ := List.getElem?_of_mem hy
    exact (hp j y hj).2
set_option maxRecDepth 100000 in
theorem open_site {n : Nat} {cs : List Value} {x : DataW H × List MemPlace} (h : DataW.trod enc Tryd.prog W base sp held n 59 cs = some x) :
    ∃ s : Sit, cs = (sitC s).toList := by
  obtain ⟨xs, m, rfl, hx, hlen, hxl, hf⟩ := DataW.trod_struct Tryd.underlying59 h
  rw [cSite] at hlen
  have hxl' : xs.length = 5 := hxl
  clear hxl
  match cs, hlen, xs, hxl' with
  | [a0, a1, a2, a3, a4, a5, a6, a7], _, [y0, y1, y2, y3, y4], _ =>
    have f0 : DataW.trod enc Tryd.prog W base sp held m 3 (([a0, a1, a2, a3, a4, a5, a6, a7].drop 0).take (Tryd.prog.cellsOf 3)) = some y0 := hf 0 _ rfl
    have f1 : DataW.trod enc Tryd.prog W base sp held m 3 (([a0, a1, a2, a3, a4, a5, a6, a7].drop 1).take (Tryd.prog.cellsOf 3)) = some y1 := hf 1 _ rfl
    have f2 : DataW.trod enc Tryd.prog W base sp held m 3 (([a0, a1, a2, a3, a4, a5, a6, a7].drop 2).take (Tryd.prog.cellsOf 3)) = some y2 := hf 2 _ rfl
    have f3 : DataW.trod enc Tryd.prog W base sp held m 9 (([a0, a1, a2, a3, a4, a5, a6, a7].drop 3).take (Tryd.prog.cellsOf 9)) = some y3 := hf 3 _ rfl
    have f4 : DataW.trod enc Tryd.prog W base sp held m 57 (([a0, a1, a2, a3, a4, a5, a6, a7].drop 4).take (Tryd.prog.cellsOf 57)) = some y4 := hf 4 _ rfl
    rw [cInt] at f0 f1 f2
    rw [cStr] at f3
    rw [cT] at f4
    simp only [List.drop_zero, List.take_succ_cons, List.take_zero, List.drop_succ_cons] at f0 f1 f2 f3 f4
    obtain ⟨n0, e0, _⟩ := DataW.trod_int Tryd.underlying3 f0
    obtain ⟨n1, e1, _⟩ := DataW.trod_int Tryd.underlying3 f1
    obtain ⟨n2, e2, _⟩ := DataW.trod_int Tryd.underlying3 f2
    obtain ⟨s, e3, _⟩ := DataW.trod_string Tryd.underlying9 f3
    obtain ⟨xs', m', rfl, hx', hlen', hxl2, hf'⟩ := DataW.trod_struct Tryd.underlying57 f4
    have hxl3 : xs'.length = 4 := hxl2
    clear hxl2
    match xs', hxl3 with
    | [z0, z1, z2, z3], _ =>
      have k0 : DataW.trod enc Tryd.prog W base sp held m' 3 (([a4, a5, a6, a7].drop 0).take (Tryd.prog.cellsOf 3)) = some z0 := hf' 0 _ rfl
      have k1 : DataW.trod enc Tryd.prog W base sp held m' 3 (([a4, a5, a6, a7].drop 1).take (Tryd.prog.cellsOf 3)) = some z1 := hf' 1 _ rfl
      have k2 : DataW.trod enc Tryd.prog W base sp held m' 9 (([a4, a5, a6, a7].drop 2).take (Tryd.prog.cellsOf 9)) = some z2 := hf' 2 _ rfl
      have k3 : DataW.trod enc Tryd.prog W base sp held m' 55 (([a4, a5, a6, a7].drop 3).take (Tryd.prog.cellsOf 55)) = some z3 := hf' 3 _ rfl
      rw [cInt] at k0 k1
      rw [cStr] at k2
      rw [csT] at k3
      simp only [List.drop_zero, List.take_succ_cons, List.take_zero, List.drop_succ_cons] at k0 k1 k2 k3
      obtain ⟨n4, e4, _⟩ := DataW.trod_int Tryd.underlying3 k0
      obtain ⟨n5, e5, _⟩ := DataW.trod_int Tryd.underlying3 k1
      obtain ⟨s6, e6, _⟩ := DataW.trod_string Tryd.underlying9 k2
      have e7 : ∃ A p q, ([a7] : List Value) = [.slice A p q] := by
        rcases open_slice Tryd.underlying55 k3 with ⟨e, _⟩ | ⟨a, len, cap, _, _, _, _, e, _⟩
        · exact ⟨none, 0, 0, e⟩
        · exact ⟨some a, len, cap, e⟩
      obtain ⟨A, pp, qq, e7⟩ := e7
      simp only [List.cons.injEq, and_true] at e0 e1 e2 e3 e4 e5 e6 e7
      subst e0 e1 e2 e3 e4 e5 e6 e7
      exact ⟨⟨n0, n1, n2, s, n4, n5, s6, A, pp, qq⟩, rfl⟩
set_option maxRecDepth 100000 in
theorem open_fn {n : Nat} {cs : List Value} {x : DataW H × List MemPlace} (h : DataW.trod enc Tryd.prog W base sp held n 43 cs = some x) (hw : Wt 43 x.1) :
    ∃ f : Fun', cs = (funC f).toList ∧ FunOk W f := by
  obtain ⟨xs, m, rfl, hx, hlen, hxl, hf⟩ := DataW.trod_struct Tryd.underlying43 h
  rw [cFn] at hlen
  have hxl' : xs.length = 5 := hxl
  clear hxl
  match cs, hlen, xs, hxl' with
  | [a0, a1, a2, a3, a4], _, [y0, y1, y2, y3, y4], _ =>
    have f0 : DataW.trod enc Tryd.prog W base sp held m 9 (([a0, a1, a2, a3, a4].drop 0).take (Tryd.prog.cellsOf 9)) = some y0 := hf 0 _ rfl
    have f1 : DataW.trod enc Tryd.prog W base sp held m 3 (([a0, a1, a2, a3, a4].drop 1).take (Tryd.prog.cellsOf 3)) = some y1 := hf 1 _ rfl
    have f2 : DataW.trod enc Tryd.prog W base sp held m 3 (([a0, a1, a2, a3, a4].drop 2).take (Tryd.prog.cellsOf 3)) = some y2 := hf 2 _ rfl
    have f3 : DataW.trod enc Tryd.prog W base sp held m 22 (([a0, a1, a2, a3, a4].drop 3).take (Tryd.prog.cellsOf 22)) = some y3 := hf 3 _ rfl
    have f4 : DataW.trod enc Tryd.prog W base sp held m 41 (([a0, a1, a2, a3, a4].drop 4).take (Tryd.prog.cellsOf 41)) = some y4 := hf 4 _ rfl
    rw [cStr] at f0
    rw [cInt] at f1 f2
    rw [csInt] at f3
    rw [csInsn] at f4
    simp only [List.drop_zero, List.take_succ_cons, List.take_zero, List.drop_succ_cons] at f0 f1 f2 f3 f4
    rw [hx] at hw
    have hw4 : Wt 41 y4.1 := wt_field (j := 4) Tryd.underlying43 hw rfl rfl
    obtain ⟨s, e0, _⟩ := DataW.trod_string Tryd.underlying9 f0
    obtain ⟨n1, e1, _⟩ := DataW.trod_int Tryd.underlying3 f1
    obtain ⟨n2, e2, _⟩ := DataW.trod_int Tryd.underlying3 f2
    obtain ⟨A, len, cap, l, e3, hI, hlm⟩ := open_ints_len f3
    obtain ⟨B, cap2, c, e4, hc1, hc2, hc3⟩ := open_structs (C := insC) (Q := InsOk W) Tryd.underlying41 cInsn (fun n cs y => open_insn_ok) (fun _ => rfl) f4 hw4
    obtain rfl : len = l.length := hI.1
    simp only [List.cons.injEq, and_true] at e0 e1 e2 e3 e4
    subst e0 e1 e2 e3 e4
    exact ⟨⟨s, n1, n2, A, cap, l, B, cap2, c⟩, rfl, hI, hlm, hc1, hc2, hc3⟩
set_option maxRecDepth 100000 in
theorem open_prog {n : Nat} {cs : List Value} {x : DataW H × List MemPlace} (h : DataW.trod enc Tryd.prog W base sp held n 34 cs = some x) (hw : Wt 34 x.1) :
    ∃ p : Prg, cs = (prgC p).toList ∧ PrgOk W p := by
  obtain ⟨xs, m, rfl, hx, hlen, hxl, hf⟩ := DataW.trod_struct Tryd.underlying34 h
  rw [cProg] at hlen
  have hxl' : xs.length = 3 := hxl
  clear hxl
  match cs, hlen, xs, hxl' with
  | [a0, a1, a2], _, [y0, y1, y2], _ =>
    have f0 : DataW.trod enc Tryd.prog W base sp held m 31 (([a0, a1, a2].drop 0).take (Tryd.prog.cellsOf 31)) = some y0 := hf 0 _ rfl
    have f1 : DataW.trod enc Tryd.prog W base sp held m 32 (([a0, a1, a2].drop 1).take (Tryd.prog.cellsOf 32)) = some y1 := hf 1 _ rfl
    have f2 : DataW.trod enc Tryd.prog W base sp held m 3 (([a0, a1, a2].drop 2).take (Tryd.prog.cellsOf 3)) = some y2 := hf 2 _ rfl
    rw [csSite] at f0
    rw [csFn] at f1
    rw [cInt] at f2
    simp only [List.drop_zero, List.take_succ_cons, List.take_zero, List.drop_succ_cons] at f0 f1 f2
    rw [hx] at hw
    have hw0 : Wt 31 y0.1 := wt_field (j := 0) Tryd.underlying34 hw rfl rfl
    have hw1 : Wt 32 y1.1 := wt_field (j := 1) Tryd.underlying34 hw rfl rfl
    obtain ⟨A, cap, l, e0, s1, s2, _⟩ := open_structs (C := sitC) (Q := fun _ => True) Tryd.underlying31 cSite (fun n cs y h _ => by obtain ⟨s, hs⟩ := open_site h; exact ⟨s, hs, trivial⟩) (fun _ => rfl) f0 hw0
    obtain ⟨B, cap2, c, e1, f1', f2', f3'⟩ := open_structs (C := funC) (Q := FunOk W) Tryd.underlying32 cFn (fun n cs y => open_fn) (fun _ => rfl) f1 hw1
    obtain ⟨n2, e2, _⟩ := DataW.trod_int Tryd.underlying3 f2
    simp only [List.cons.injEq, and_true] at e0 e1 e2
    subst e0 e1 e2
    exact ⟨⟨A, cap, l, B, cap2, c, n2⟩, rfl, s1, f1', s2, f2', f3'⟩
/-- An argument that is a program. -/
theorem arg_prog {v : Value} {d : DataW H} {p : List MemPlace} {ts : List TypeId} {ds : List (DataW H)} (hwt : (DataW.weightsEach Tryd.prog (34 :: ts) (d :: ds)).all (· ≤ reachBytes) = true)
    (hv : Value.okWide Tryd.prog W .any base 34 v) (h : DataW.Trod enc Tryd.prog W 0 sp held 34 v d p) : ∃ q : Prg, v = prgV q ∧ PrgOk W q := by
  unfold Value.okWide at hv
  rw [Tryd.underlying34] at hv
  obtain ⟨cs, rfl, _, _⟩ := hv
  obtain ⟨fuel, hf⟩ := h
  obtain ⟨q, hc, hok⟩ := open_prog hf (fun n hn => by
    have m2 := DataW.weights_mem_each (P := Tryd.prog) (ts := 34 :: ts) (ds := d :: ds) (j := 0) rfl rfl _ hn
    exact of_decide_eq_true (List.all_eq_true.1 hwt _ m2))
  refine ⟨q, ?_, hok⟩
  have : cs.toList = (prgC q).toList := hc
  unfold prgV
  rw [← Array.toArray_toList (xs := cs), this]
end

end Go.Proofs.YtdknclhbnhiojaaDoor
