/- Merged: VP. -/
import Derived.Test.YtkbplcfehllbjaaGreatDoorMk22
import Derived.Test.YtkbplcfehllbjaaGreatDoorCards
import Derived.Test.YtkbplcfehllbjaaGreatDoorTie
import Derived.ProofKit
import Derived.OpenShut
import Derived.Deep.DeepHandedRow
import Derived.Deep.DeepWitnessRowRef
import Derived.LaidMore
import Derived.Lib.LaidTab
import Derived.Stop.LaidErr
/- What the rows' listed variables give the walks; the witness's world. -/
namespace Go.Proofs.YtkbplcfehllbjaaGreatDoor
open Go.ChangeShapes Go.WideShapes Go.ChangeAt Go.RowKit
theorem own : ownKnob Tryz.prog.godebug = none := by kernel_rfl
theorem gKw : Tryz.prog.globalNamed "crosstree/lex.keywords" = some 1 := by kernel_rfl
theorem gOp : Tryz.prog.globalNamed "crosstree/lex.operators" = some 0 := by kernel_rfl
theorem gEr : Tryz.prog.globalNamed "strconv.ErrRange" = some 4 := by kernel_rfl
theorem tKw : (Tryz.prog.globals[1]?).map (·.type) = some 85 := by kernel_rfl
theorem tOp : (Tryz.prog.globals[0]?).map (·.type) = some 82 := by kernel_rfl
theorem tEr : (Tryz.prog.globals[4]?).map (·.type) = some 62 := by kernel_rfl
theorem gDb : Tryz.prog.globalNamed "math/bits.deBruijn64tab" = some 7 := by kernel_rfl
theorem star : "*" ++ "errors.errorString" = "*errors.errorString" := by decide
theorem row94 (u : TypeId) (h : Tryz.prog.typeName? 3 u = some "*errors.errorString") : u = 122 :=
  typeName_ptr_named (nm := "errors.errorString") (by rw [star]; kernel_rfl) (by kernel_rfl) (by decide) u (by rw [star]; exact h)
theorem c9 : Tryz.prog.cellsOf 9 = 1 := by kernel_rfl
theorem strs_of {H : Type} {enc : TypeId × Value → H} {W : World} {sp : Nat → Bool} {held : Bool} {fuel T n : Nat} {cs : List Value} {L : List (List UInt8)} {p : List MemPlace}
    (ht : Tryz.prog.underlying T = some (.array n 9)) (hct : Tryz.prog.cellsOf T = n) (hn : n = L.length)
    (h : DataW.trod enc Tryz.prog W 0 sp held fuel T cs = some (.agg (L.map fun x => .lit (.string x)), p)) : cs.toArray = strs L := by
  obtain ⟨xs, m, rfl, hx, hlen, hn3, hel⟩ := DataW.trod_array ht h
  have hx1 : L.map (fun x => (DataW.lit (.string x) : DataW H)) = xs.map (·.1) := by
    have := congrArg Prod.fst hx
    simpa using this
  have hlen' : cs.length = L.length := by rw [hlen, hct, hn]
  have e : cs = L.map fun x => Value.string ⟨x.toArray⟩ := by
    apply List.ext_getElem (by simpa using hlen')
    intro i h1 h2
    have hi : i < n := by omega
    have h3 := hel i hi
    rw [c9, Nat.mul_one] at h3
    have hix : i < xs.length := by omega
    rw [List.getElem?_eq_getElem hix] at h3
    obtain ⟨s, hs, hxs, _⟩ := DataW.trod_string Tryz.underlying9 h3
    have hc : (cs.drop i).take 1 = [cs[i]] := by
      rw [List.drop_eq_getElem_cons h1]; rfl
    rw [hc] at hs
    have h5 := congrArg (fun l => l[i]?) hx1
    simp only [List.getElem?_map, List.getElem?_eq_getElem hix, hxs, Option.map_some] at h5
    rw [List.getElem?_eq_getElem (by omega : i < L.length)] at h5
    simp at h5
    simp at hs
    rw [hs]
    simp [h5]
  rw [e]; rfl
theorem var_heap {W : World} {name : String} {g : Nat} {cs : Array Value} (hg : Tryz.prog.globalNamed name = some g) (h : World.var? Tryz.prog W name = some cs) : ∃ t fr, W.heap[g]? = some (.cells cs t fr) := by
  unfold World.var? at h
  rw [hg] at h
  simp only [Option.bind_some] at h
  split at h
  · rename_i c t fr e; cases h; exact ⟨t, fr, e⟩
  · cases h
/-- What the row's list gives: the tables hold what the text lays. -/
theorem vars_of {W : World} (h : laidMetH Tryz.prog Rows.parsePlacesRow.laid W) (hsh : W.ShapedOpen Tryz.prog) : Vars W := by
  rw [MakeChecks.laidMetH_plain _ _ _ (by kernel_rfl)] at h
  have h3 := (((laidMet.tail h).tail).tail)
  obtain ⟨a0, s0, hv0, _, _, _⟩ := laid_sentinel h3 gEr tEr Tryz.underlying62 row94 Tryz.underlying122 Tryz.underlying124 rfl rfl Tryz.underlying9 (by kernel_rfl) c9
  clear h3
  obtain ⟨ps, hl, hps1, hps2⟩ := h
  clear hps1 hps2
  obtain ⟨_, _, _, _, _, _, _, _, _, _, hl, _⟩ := hl
  obtain ⟨g7, t7, cs7, _, _, _, hg7, _, hv7, _, hl, _⟩ := hl
  obtain ⟨_, _, _, _, _, _, _, _, _, _, hl, _⟩ := hl
  obtain ⟨g, t, cs, f, p, q, hg, ht, hv, hd, hl, _⟩ := hl
  obtain ⟨_, _, _, _, _, _, _, _, _, _, hl, _⟩ := hl
  obtain ⟨g5, t5, cs5, f5, p5, q5, hg5, ht5, hv5, hd5, hl, _⟩ := hl
  obtain ⟨g6, t6, cs6, f6, p6, q6, hg6, ht6, hv6, hd6, hl, _⟩ := hl
  obtain rfl := Option.some.inj (gEr.symm.trans hg)
  obtain rfl := Option.some.inj (gKw.symm.trans hg5)
  obtain rfl := Option.some.inj (gOp.symm.trans hg6)
  obtain rfl := Option.some.inj (tEr.symm.trans ht)
  obtain rfl := Option.some.inj (tKw.symm.trans ht5)
  obtain rfl := Option.some.inj (tOp.symm.trans ht6)
  have e5 : cs5 = kwC := by
    have := strs_of (L := kwL) Tryz.underlying85 (by kernel_rfl) rfl hd5
    have e : cs5 = strs kwL := by simpa using this
    exact e
  have e6 : cs6 = opC := by
    have := strs_of (L := opL) Tryz.underlying82 (by kernel_rfl) rfl hd6
    have e : cs6 = strs opL := by simpa using this
    exact e
  subst e5 e6
  refine ⟨?_, var_heap gKw hv5, var_heap gOp hv6, Tryz.laysM219.s1_3 W hsh, ?_⟩
  · obtain ⟨t, fr, e⟩ := var_heap (hg7) hv7
    obtain rfl := Option.some.inj (gDb.symm.trans hg7)
    rcases Nat.lt_or_ge 7 W.heap.size with h | h
    · omega
    · rw [Array.getElem?_eq_none h] at e; cases e
  · refine ⟨.iface 122 (.pointer (some a0)), ?_, Or.inr ⟨122, .pointer (some a0), rfl⟩⟩
    have h0 := World.var?_cell gEr hv0 0
    simpa using h0
/-- The door's own heap meets the condition. -/
theorem door_met (os : Os) (args : Array Value) : laidMet Tryz.prog Rows.parsePlacesRow.laid ((World.doorLaid Tryz.prog 72 os).forCall (fun _ _ => 0) ⟨#[], args, []⟩).memory :=
  laidMet_of_run' 8 (by kernel_rfl) (by kernel_rfl)
end Go.Proofs.YtkbplcfehllbjaaGreatDoor
