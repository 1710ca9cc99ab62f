/- What stage 6's row lists; the witness's world. -/
import Derived.Test.YtjfbkogjgjmndaaDoorCards
import Derived.Test.YtjfbkogjgjmndaaDoorTie
import Derived.Test.YtjfbkogjgjmndaaDoorC1
import Derived.ProofKit
import Derived.OpenShut
import Derived.Deep.DeepHandedRow
import Derived.Deep.DeepWitnessRowRef
import Derived.LaidMore
import Derived.Lib.LaidTab
import Derived.Stop.LaidErr
namespace Go.Proofs.YtjfbkogjgjmndaaDoor
open Go.ChangeShapes Go.WideShapes Go.ChangeAt Go.RowKit
theorem own : ownKnob Tryd.prog.godebug = none := by kernel_rfl
theorem gKd : Tryd.prog.globalNamed "crosstree/ctype.kinds" = some 0 := by kernel_rfl
theorem tKd : (Tryd.prog.globals[0]?).map (·.type) = some 76 := by kernel_rfl
theorem cInt : Tryd.prog.cellsOf 3 = 1 := by kernel_rfl
theorem cBool : Tryd.prog.cellsOf 4 = 1 := by kernel_rfl
theorem cKd : Tryd.prog.cellsOf 73 = 5 := by kernel_rfl
theorem laidOut : laidOutB Tryd.prog = true := by kernel_rfl
section
variable {H : Type} {enc : TypeId × Value → H} {W : World} {base : Nat} {sp : Nat → Bool} {held : Bool}
set_option maxRecDepth 100000 in
theorem open_kind {n : Nat} {cs : List Value} {x : DataW H × List MemPlace} (h : DataW.trod enc Tryd.prog W base sp held n 73 cs = some x) :
    ∃ (a c d e : Int) (b : Bool), cs = [.int .i64 a, .bool b, .int .i64 c, .int .i64 d, .int .i64 e] ∧ x.1 = .agg [.lit (.int .i64 a), .lit (.bool b), .lit (.int .i64 c), .lit (.int .i64 d), .lit (.int .i64 e)] := by
  obtain ⟨xs, m, rfl, hx, hlen, hxl, hf⟩ := DataW.trod_struct Tryd.underlying73 h
  rw [cKd] at hlen
  have hxl' : xs.length = 5 := hxl
  clear hxl
  match cs, hlen, xs, hxl' with
  | [a0, a1, a2, a3, a4], _, [y0, y1, y2, y3, y4], _ =>
    have f0 : DataW.trod enc Tryd.prog W base sp held m 3 (([a0, a1, a2, a3, a4].drop 0).take (Tryd.prog.cellsOf 3)) = some y0 := hf 0 _ rfl
    have f1 : DataW.trod enc Tryd.prog W base sp held m 4 (([a0, a1, a2, a3, a4].drop 1).take (Tryd.prog.cellsOf 4)) = some y1 := hf 1 _ rfl
    have f2 : DataW.trod enc Tryd.prog W base sp held m 3 (([a0, a1, a2, a3, a4].drop 2).take (Tryd.prog.cellsOf 3)) = some y2 := hf 2 _ rfl
    have f3 : DataW.trod enc Tryd.prog W base sp held m 3 (([a0, a1, a2, a3, a4].drop 3).take (Tryd.prog.cellsOf 3)) = some y3 := hf 3 _ rfl
    have f4 : DataW.trod enc Tryd.prog W base sp held m 3 (([a0, a1, a2, a3, a4].drop 4).take (Tryd.prog.cellsOf 3)) = some y4 := hf 4 _ rfl
    rw [cInt] at f0 f2 f3 f4
    rw [cBool] at f1
    simp only [List.drop_zero, List.take_succ_cons, List.take_zero, List.drop_succ_cons] at f0 f1 f2 f3 f4
    obtain ⟨n0, e0, g0, _⟩ := DataW.trod_int Tryd.underlying3 f0
    obtain ⟨n1, e1, g1⟩ := DataW.trod_bool Tryd.underlying4 f1
    obtain ⟨n2, e2, g2, _⟩ := DataW.trod_int Tryd.underlying3 f2
    obtain ⟨n3, e3, g3, _⟩ := DataW.trod_int Tryd.underlying3 f3
    obtain ⟨n4, e4, g4, _⟩ := DataW.trod_int Tryd.underlying3 f4
    simp only [List.cons.injEq, and_true] at e0 e1 e2 e3 e4
    subst e0 e1 e2 e3 e4
    refine ⟨n0, n2, n3, n4, n1, rfl, ?_⟩
    rw [hx, g0, g1, g2, g3, g4]
    rfl
end
theorem chunks_eq {m : Nat} : ∀ (n : Nat) (a b : List Value), a.length = n * m → b.length = n * m → (∀ i, i < n → (a.drop (i * m)).take m = (b.drop (i * m)).take m) → a = b
  | 0, a, b, ha, hb, _ => by
    rw [Nat.zero_mul] at ha hb
    rw [List.eq_nil_of_length_eq_zero ha, List.eq_nil_of_length_eq_zero hb]
  | n + 1, a, b, ha, hb, h => by
    have h0 := h 0 (by omega)
    simp only [Nat.zero_mul, List.drop_zero] at h0
    have hr : a.drop m = b.drop m := chunks_eq (m := m) n _ _ (by rw [List.length_drop, ha, Nat.succ_mul]; omega) (by rw [List.length_drop, hb, Nat.succ_mul]; omega) (fun i hi => by
      have := h (i + 1) (by omega)
      rw [List.drop_drop, List.drop_drop, show m + i * m = (i + 1) * m by rw [Nat.succ_mul]; omega]
      exact this)
    rw [← List.take_append_drop m a, ← List.take_append_drop m b, h0, hr]
theorem var_heap {W : World} {name : String} {g : Nat} {cs : Array Value} (hg : Tryd.prog.globalNamed name = some g) (h : World.var? Tryd.prog W name = some cs) : ∃ t fr, W.heap[g]? = some (.cells cs t fr) := by
  unfold World.var? at h
  rw [hg] at h
  simp only [Option.bind_some] at h
  split at h
  · rename_i c t fr e; cases h; exact ⟨t, fr, e⟩
  · cases h
set_option maxRecDepth 100000 in
theorem vars_of {W : World} (h : laidMetH Tryd.prog Rows.normStepsRow.laid W) : VarsK W := by
  rw [MakeChecks.laidMetH_plain _ _ _ (by kernel_rfl)] at h
  obtain ⟨ps, hl, hps1, hps2⟩ := h
  clear hps1 hps2
  obtain ⟨g, t, cs, f, p, q, hg, ht, hv, hd, hl, _⟩ := hl
  obtain rfl := Option.some.inj (gKd.symm.trans hg)
  obtain rfl := Option.some.inj (tKd.symm.trans ht)
  have e : cs = kindsC := by
    obtain ⟨xs, m, rfl, hx, hlen, hn3, hel⟩ := DataW.trod_array Tryd.underlying76 hd
    have hlen' : cs.toList.length = 10 * 5 := by rw [hlen]; kernel_rfl
    have hx1 := congrArg Prod.fst hx
    simp only [Rows.laid_crosstree_ctype_kinds] at hx1
    have e2 : cs.toList = kindsC.toList := by
      refine chunks_eq (m := 5) 10 _ _ hlen' rfl (fun i hi => ?_)
      have h3 := hel i hi
      rw [cKd] at h3
      have hix : i < xs.length := by omega
      rw [List.getElem?_eq_getElem hix] at h3
      obtain ⟨a, c, d, e, b, hcs, hxd⟩ := open_kind h3
      rw [hcs]
      have h5 := congrArg (fun l : DataW Unit => match l with | .agg ds => ds[i]? | _ => none) hx1
      simp only [List.getElem?_map, List.getElem?_eq_getElem hix, Option.map_some, hxd] at h5
      have hi' : i = 0 ∨ i = 1 ∨ i = 2 ∨ i = 3 ∨ i = 4 ∨ i = 5 ∨ i = 6 ∨ i = 7 ∨ i = 8 ∨ i = 9 := by omega
      rcases hi' with rfl | rfl | rfl | rfl | rfl | rfl | rfl | rfl | rfl | rfl
      all_goals
        simp at h5
        obtain ⟨rfl, rfl, rfl, rfl, rfl⟩ := h5
        rfl
    rw [← Array.toArray_toList (xs := cs), e2]
  subst e
  exact var_heap gKd hv
theorem door_met (os : Os) (args : Array Value) : laidMet Tryd.prog Rows.normStepsRow.laid ((World.doorLaid Tryd.prog 23 os).forCall (fun _ _ => 0) ⟨#[], args, []⟩).memory :=
  laidMet_of_run' 8 (by kernel_rfl) (by kernel_rfl)

theorem u8_wf {n : Int} (h : (Lit.int .u8 n).wf = true) : 0 ≤ n ∧ n < 256 := by
  have h1 : IntKind.u8.min = 0 := rfl
  have h2 : IntKind.u8.max = 255 := rfl
  simp [Lit.wf] at h
  omega
theorem u16_wf {n : Int} (h : (Lit.int .u16 n).wf = true) : 0 ≤ n ∧ n < 65536 := by
  have h1 : IntKind.u16.min = 0 := rfl
  have h2 : IntKind.u16.max = 65535 := rfl
  simp [Lit.wf] at h
  omega

end Go.Proofs.YtjfbkogjgjmndaaDoor
