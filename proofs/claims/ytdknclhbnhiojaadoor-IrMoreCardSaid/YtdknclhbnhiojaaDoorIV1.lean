/- What the rows' listed variable gives the walks; the witness's world; an argument that is an instruction. -/
import Derived.Test.YtdknclhbnhiojaaDoorCards
import Derived.Test.YtdknclhbnhiojaaDoorTie
import Derived.Test.YtdknclhbnhiojaaDoorI7
import Derived.ProofKit
import Derived.OpenShut
import Derived.Deep.DeepHandedRow
import Derived.Deep.DeepWitnessRowRef
import Derived.Deep.Slices
import Derived.LaidMore
import Derived.Lib.LaidTab
import Derived.Stop.LaidErr
import Derived.SizedLaws
namespace Go.Proofs.YtdknclhbnhiojaaDoor
open Go.ChangeShapes Go.WideShapes Go.ChangeAt Go.RowKit Go.Deep
theorem own : ownKnob Tryd.prog.godebug = none := by kernel_rfl
theorem gRows : Tryd.prog.globalNamed "crosstree/ir.rows" = some 0 := by kernel_rfl
theorem tRows : (Tryd.prog.globals[0]?).map (·.type) = some 62 := by kernel_rfl
theorem cInt : Tryd.prog.cellsOf 3 = 1 := by kernel_rfl
theorem cI64 : Tryd.prog.cellsOf 2 = 1 := by kernel_rfl
theorem cStr : Tryd.prog.cellsOf 9 = 1 := by kernel_rfl
theorem csInt : Tryd.prog.cellsOf 22 = 1 := by kernel_rfl
theorem cInsn : Tryd.prog.cellsOf 24 = 8 := by kernel_rfl
theorem laidOut : laidOutB Tryd.prog = true := by kernel_rfl
theorem list_of {P : Nat → Int → Prop} : ∀ (n : Nat), (∀ j, j < n → ∃ x, P j x) → ∃ l : List Int, l.length = n ∧ ∀ j x, l[j]? = some x → P j x
  | 0, _ => ⟨[], rfl, fun j x h => by simp at h⟩
  | n + 1, h => by
    obtain ⟨l, hl, hp⟩ := list_of n (fun j hj => h j (by omega))
    obtain ⟨y, hy⟩ := h n (by omega)
    refine ⟨l ++ [y], by simp [hl], fun j x hx => ?_⟩
    by_cases hj : j < l.length
    · rw [List.getElem?_append_left hj] at hx
      exact hp j x hx
    · have : j < (l ++ [y]).length := (List.getElem?_eq_some_iff.1 hx).1
      simp at this
      obtain rfl : j = l.length := by omega
      simp at hx
      subst hx
      rw [hl]
      exact hy
section
variable {H : Type} {enc : TypeId × Value → H} {W : World} {base : Nat} {sp : Nat → Bool} {held : Bool}
set_option maxRecDepth 100000 in
/-- A slice of ints, as its datum tells. -/
theorem open_ints {n : Nat} {cs : List Value} {x : DataW H × List MemPlace} (h : DataW.trod enc Tryd.prog W base sp held n 22 cs = some x) :
    ∃ A len cap l, cs = [.slice A len cap] ∧ IntsAt W A len cap l ∧ (x.1 = .nil ∧ l = [] ∨ ∃ elems spare, x.1 = .slice elems spare ∧ elems.length = l.length) := by
  rcases open_slice Tryd.underlying22 h with ⟨rfl, rfl⟩ | ⟨a, len, cap, m, n', D, Pl, rfl, hb, hl, hm, hmm, rfl, hi⟩
  · exact ⟨none, 0, 0, [], rfl, IntsAt.nil W, .inl ⟨rfl, rfl⟩⟩
  · have hlm : len ≤ m := by rw [hmm]; split <;> omega
    obtain ⟨l, hll, hp⟩ := list_of (P := fun j x => W.cell? (a.add j) = some (.int .i64 x)) len (fun j hj => by
      obtain ⟨cs', hc, ht⟩ := hi j (by omega)
      rw [cInt, Nat.mul_one] at hc
      obtain ⟨y, rfl, _⟩ := DataW.trod_int Tryd.underlying3 ht
      obtain ⟨_, _, hat⟩ := World.cells?_some hc
      have := hat 0 (by decide)
      rw [add_add, Nat.add_zero] at this
      exact ⟨y, this⟩)
    exact ⟨some a, len, cap, l, rfl, ⟨hll.symm, .inr ⟨a, rfl, hp⟩⟩, .inr ⟨_, _, rfl, by simp [hll]⟩⟩
set_option maxRecDepth 100000 in
theorem open_ints_len {n : Nat} {cs : List Value} {x : DataW H × List MemPlace} (h : DataW.trod enc Tryd.prog W base sp held n 22 cs = some x) :
    ∃ A len cap l, cs = [.slice A len cap] ∧ IntsAt W A len cap l ∧ l.length ≤ maxLen := by
  obtain ⟨A, len, cap, l, e, hI, _⟩ := open_ints h
  refine ⟨A, len, cap, l, e, hI, ?_⟩
  rcases open_slice Tryd.underlying22 h with ⟨e2, _⟩ | ⟨a, len2, cap2, m, n', D, Pl, e2, hb, hl, hm, _⟩
  · rw [e] at e2
    simp only [List.cons.injEq, and_true, Value.slice.injEq] at e2
    have := hI.1
    omega
  · rw [e] at e2
    simp only [List.cons.injEq, and_true, Value.slice.injEq] at e2
    have := hI.1
    omega
set_option maxRecDepth 100000 in
theorem open_insn {n : Nat} {cs : List Value} {x : DataW H × List MemPlace} (h : DataW.trod enc Tryd.prog W base sp held n 24 cs = some x) :
    ∃ i : Ins, cs = (insC i).toList ∧ IntsAt W i.aa i.an i.ac i.args ∧ ∃ d0 d1 d2 d3 d4 d5 d6 d7, x.1 = .agg [d0, d1, d2, d3, d4, d5, d6, d7] ∧ (d7 = .nil ∧ i.args = [] ∨ ∃ elems spare, d7 = .slice elems spare ∧ elems.length = i.args.length) := by
  obtain ⟨xs, m, rfl, hx, hlen, hxl, hf⟩ := DataW.trod_struct Tryd.underlying24 h
  rw [cInsn] at hlen
  have hxl' : xs.length = 8 := hxl
  clear hxl
  match cs, hlen, xs, hxl' with
  | [a0, a1, a2, a3, a4, a5, a6, a7], _, [y0, y1, y2, y3, y4, y5, y6, y7], _ =>
    have f0 : DataW.trod enc Tryd.prog W base sp held m 3 (([a0, a1, a2, a3, a4, a5, a6, a7].drop 0).take (Tryd.prog.cellsOf 3)) = some y0 := hf 0 _ rfl
    have f1 : DataW.trod enc Tryd.prog W base sp held m 3 (([a0, a1, a2, a3, a4, a5, a6, a7].drop 1).take (Tryd.prog.cellsOf 3)) = some y1 := hf 1 _ rfl
    have f2 : DataW.trod enc Tryd.prog W base sp held m 3 (([a0, a1, a2, a3, a4, a5, a6, a7].drop 2).take (Tryd.prog.cellsOf 3)) = some y2 := hf 2 _ rfl
    have f3 : DataW.trod enc Tryd.prog W base sp held m 3 (([a0, a1, a2, a3, a4, a5, a6, a7].drop 3).take (Tryd.prog.cellsOf 3)) = some y3 := hf 3 _ rfl
    have f4 : DataW.trod enc Tryd.prog W base sp held m 3 (([a0, a1, a2, a3, a4, a5, a6, a7].drop 4).take (Tryd.prog.cellsOf 3)) = some y4 := hf 4 _ rfl
    have f5 : DataW.trod enc Tryd.prog W base sp held m 2 (([a0, a1, a2, a3, a4, a5, a6, a7].drop 5).take (Tryd.prog.cellsOf 2)) = some y5 := hf 5 _ rfl
    have f6 : DataW.trod enc Tryd.prog W base sp held m 9 (([a0, a1, a2, a3, a4, a5, a6, a7].drop 6).take (Tryd.prog.cellsOf 9)) = some y6 := hf 6 _ rfl
    have f7 : DataW.trod enc Tryd.prog W base sp held m 22 (([a0, a1, a2, a3, a4, a5, a6, a7].drop 7).take (Tryd.prog.cellsOf 22)) = some y7 := hf 7 _ rfl
    rw [cInt] at f0 f1 f2 f3 f4
    rw [cI64] at f5
    rw [cStr] at f6
    rw [csInt] at f7
    simp only [List.drop_zero, List.take_succ_cons, List.take_zero, List.drop_succ_cons] at f0 f1 f2 f3 f4 f5 f6 f7
    obtain ⟨n0, e0, _⟩ := DataW.trod_int Tryd.underlying3 f0
    obtain ⟨n1, e1, _⟩ := DataW.trod_int Tryd.underlying3 f1
    obtain ⟨n2, e2, _⟩ := DataW.trod_int Tryd.underlying3 f2
    obtain ⟨n3, e3, _⟩ := DataW.trod_int Tryd.underlying3 f3
    obtain ⟨n4, e4, _⟩ := DataW.trod_int Tryd.underlying3 f4
    obtain ⟨n5, e5, _⟩ := DataW.trod_int Tryd.underlying2 f5
    obtain ⟨s, e6, _⟩ := DataW.trod_string Tryd.underlying9 f6
    obtain ⟨A, len, cap, l, e7, hI, hd⟩ := open_ints f7
    simp only [List.cons.injEq, and_true] at e0 e1 e2 e3 e4 e5 e6 e7
    subst e0 e1 e2 e3 e4 e5 e6 e7
    exact ⟨⟨n0, n1, n2, n3, n4, n5, s, A, len, cap, l⟩, rfl, hI, y0.1, y1.1, y2.1, y3.1, y4.1, y5.1, y6.1, y7.1, by rw [hx]; rfl, hd⟩
/-- An argument that is an instruction. -/
theorem arg_insn {v : Value} {d : DataW H} {p : List MemPlace} (hv : Value.okWide Tryd.prog W .any base 24 v) (h : DataW.Trod enc Tryd.prog W 0 sp held 24 v d p) :
    ∃ i : Ins, v = insV i ∧ IntsAt W i.aa i.an i.ac i.args ∧ ∃ d0 d1 d2 d3 d4 d5 d6 d7, d = .agg [d0, d1, d2, d3, d4, d5, d6, d7] ∧ (d7 = .nil ∧ i.args = [] ∨ ∃ elems spare, d7 = .slice elems spare ∧ elems.length = i.args.length) := by
  unfold Value.okWide at hv
  rw [Tryd.underlying24] at hv
  obtain ⟨cs, rfl, _, _⟩ := hv
  obtain ⟨fuel, hf⟩ := h
  obtain ⟨i, hc, hI, hd⟩ := open_insn hf
  refine ⟨i, ?_, hI, hd⟩
  have : cs.toList = (insC i).toList := hc
  unfold insV
  rw [← Array.toArray_toList (xs := cs), this]
end
theorem u16_nat {n : Int} (h : (Lit.int .u16 n).wf = true) : 0 ≤ n ∧ n < 65536 := by
  have h1 : IntKind.u16.min = 0 := rfl
  have h2 : IntKind.u16.max = 65535 := rfl
  simp [Lit.wf] at h
  omega
theorem u8_nat {n : Int} (h : (Lit.int .u8 n).wf = true) : 0 ≤ n ∧ n < 256 := by
  have h1 : IntKind.u8.min = 0 := rfl
  have h2 : IntKind.u8.max = 255 := rfl
  simp [Lit.wf] at h
  omega
theorem reads_sized {H : Type} {i : Ins} {d : DataW H} {x0 x1 x2 x3 x4 x5 x6 x7 : DataW H} {ts : List TypeId} {ds : List (DataW H)} (hd : d = .agg [x0, x1, x2, x3, x4, x5, x6, x7]) (hx : x7 = .nil ∧ i.args = [] ∨ ∃ elems spare, x7 = .slice elems spare ∧ elems.length = i.args.length)
    (hwt : (DataW.weightsEach Tryd.prog (24 :: ts) (d :: ds)).all (· ≤ reachBytes) = true) : (readsI i).length * 8 ≤ 140737488355328 := by
  have hr : (readsI i).length ≤ i.args.length + 3 := by
    rw [readsI_tab]; unfold tabR; repeat' split
    all_goals (simp; try omega)
  have ha : i.args.length * 8 ≤ 140737488351232 := by
    rcases hx with ⟨_, h⟩ | ⟨el, sp, rfl, h⟩
    · rw [h]; simp
    · have m0 : (el.length + sp.length) * Tryd.prog.bytesOf 3 ∈ (DataW.slice el sp).weights Tryd.prog 22 := by
        unfold DataW.weights; rw [Tryd.underlying22]; simp
      have m1 : (el.length + sp.length) * Tryd.prog.bytesOf 3 ∈ d.weights Tryd.prog 24 := by
        rw [hd]; unfold DataW.weights; rw [Tryd.underlying24]
        exact DataW.weights_mem_each (j := 7) rfl rfl _ m0
      have m2 := DataW.weights_mem_each (P := Tryd.prog) (ts := 24 :: ts) (ds := d :: ds) (j := 0) rfl rfl _ m1
      have m3 := of_decide_eq_true (List.all_eq_true.1 hwt _ m2)
      rw [show Tryd.prog.bytesOf 3 = 8 by kernel_rfl] at m3
      unfold reachBytes at m3
      omega
  omega
theorem var_heap {W : World} {name : String} {g : Nat} {cs : Array Value} (hg : Tryd.prog.globalNamed name = some g) (h : World.var? Tryd.prog W name = some cs) : ∃ t fr, W.heap[g]? = some (.cells cs t fr) := by
  unfold World.var? at h
  rw [hg] at h
  simp only [Option.bind_some] at h
  split at h
  · rename_i c t fr e; cases h; exact ⟨t, fr, e⟩
  · cases h
set_option maxRecDepth 100000 in
theorem vars_of {W : World} (h : laidMetH Tryd.prog Rows.irReadsRow.laid W) : VarsR W := by
  rw [MakeChecks.laidMetH_plain _ _ _ (by kernel_rfl)] at h
  obtain ⟨ps, hl, hps1, hps2⟩ := h
  clear hps1 hps2
  obtain ⟨g, t, cs, f, p, q, hg, ht, hv, hd, hl, _⟩ := hl
  obtain rfl := Option.some.inj (gRows.symm.trans hg)
  obtain rfl := Option.some.inj (tRows.symm.trans ht)
  have e : cs = rowsC := by
    obtain ⟨xs, m, rfl, hx, hlen, hn3, hel⟩ := DataW.trod_array Tryd.underlying62 hd
    have hlen' : cs.toList.length = 21 := by rw [hlen]; kernel_rfl
    have hx1 := congrArg Prod.fst hx
    simp only [Rows.laid_crosstree_ir_rows] at hx1
    have e2 : cs.toList = rowsC.toList := by
      refine List.ext_getElem? fun i => ?_
      by_cases hi : i < 21
      · have h3 := hel i hi
        rw [cStr, Nat.mul_one] at h3
        have hix : i < xs.length := by omega
        rw [List.getElem?_eq_getElem hix] at h3
        obtain ⟨s, hcs, hxd⟩ := DataW.trod_string Tryd.underlying9 h3
        have hci : cs.toList[i]? = some (.string s) := by
          have h6 := congrArg (fun l : List Value => l[0]?) hcs
          simpa [List.getElem?_take, List.getElem?_drop] using h6
        rw [hci]
        have h5 := congrArg (fun l : DataW Unit => match l with | .agg ds => ds[i]? | _ => none) hx1
        have h7 : some (DataW.lit (H := Unit) (.string s.data.toList)) = (rowsT.map fun l => DataW.lit (H := Unit) (.string l))[i]? := by
          simp only [List.getElem?_map, List.getElem?_eq_getElem hix, Option.map_some, hxd] at h5
          exact h5.symm
        rw [List.getElem?_map] at h7
        obtain ⟨l, hl1, hl2⟩ := Option.map_eq_some_iff.1 h7.symm
        have hl3 : l = s.data.toList := by injection hl2 with e; injection e
        have hs : s = ⟨l.toArray⟩ := by rw [hl3]
        rw [show rowsC.toList = rowsT.map fun l => Value.string ⟨l.toArray⟩ by simp [rowsC], List.getElem?_map, hl1, hs]
        rfl
      · rw [List.getElem?_eq_none (by omega), List.getElem?_eq_none (by show rowsC.toList.length ≤ i; simp [rowsC, rowsT]; omega)]
    rw [← Array.toArray_toList (xs := cs), e2]
  subst e
  exact var_heap gRows hv
theorem door_met (os : Os) (args : Array Value) : laidMet Tryd.prog Rows.irReadsRow.laid ((World.doorLaid Tryd.prog 14 os).forCall (fun _ _ => 0) ⟨#[], args, []⟩).memory :=
  laidMet_of_run' 8 (by kernel_rfl) (by kernel_rfl)

end Go.Proofs.YtdknclhbnhiojaaDoor
