/- crosstreelaw02.first: the first expression of the first function. -/
import Derived.Test.YtkbplcfehllbjaaGreatDoorMkTop
namespace Go.Proofs.YtkbplcfehllbjaaGreatDoor
open Go.RowKit
attribute [local go_sem ↓] Go.wp_at_zero Go.wp_at_succ
def firstN (n : Nd) : Option Nd :=
  match n.kids with
  | [] => none
  | f :: _ => match f.kids.getLast? with
    | none => none
    | some b => match b.kids with
      | [s] => match s.kids with
        | [x] => some x
        | _ => none
      | _ => none
def AsN (x : Nd) (k : Int) (tx : ByteArray) (m tk tm : Int) (nm : ByteArray) : Prop := k = x.kind ∧ tx = ⟨x.text.toArray⟩ ∧ m = x.num ∧ tk = x.typ.kind ∧ tm = x.typ.num ∧ nm = ⟨x.typ.name.toArray⟩
def FirstRes (o : Option Nd) (S : Nat → Prop) (w : World) (e : Ending) (w' : World) : Prop := w.grownBy w' none ∧ match o with
  | none => e = .returned (.tuple #[.agg #[.int .i64 0, .string ⟨#[]⟩, .int .i64 0, .int .i64 0, .int .i64 0, .string ⟨#[]⟩, .slice none 0 0, .slice none 0 0], .bool false])
  | some x => ∃ (k m tk tm : Int) (tx nm : ByteArray) (oa : Option Addr) (on oc : Nat) (ka : Option Addr) (kn kc : Nat), e = .returned (.tuple #[.agg #[.int .i64 k, .string tx, .int .i64 m, .int .i64 tk, .int .i64 tm, .string nm, .slice oa on oc, .slice ka kn kc], .bool true]) ∧ Hid (AsN x k tx m tk tm nm) ∧ Hid (RepOf w S (.slice oa on oc) x.typ.of) ∧ Hid (RepK w S (.slice ka kn kc) x.kids)
theorem same_vals (x : Nd) {k m tk tm : Int} {tx nm : ByteArray} {oa : Option Addr} {on oc : Nat} {ka : Option Addr} {kn kc : Nat} {k' m' tk' tm' : Int} {tx' nm' : ByteArray} {oa' : Option Addr} {on' oc' : Nat} {ka' : Option Addr} {kn' kc' : Nat} {S S' : Nat → Prop} {w : World}
    (h : AsN x k tx m tk tm nm) (h' : AsN x k' tx' m' tk' tm' nm') (h1 : RepOf w S (.slice oa on oc) x.typ.of) (h2 : RepOf w S' (.slice oa' on' oc') x.typ.of) (h3 : RepK w S (.slice ka kn kc) x.kids) (h4 : RepK w S' (.slice ka' kn' kc') x.kids) :
    Calls Tryz.prog 12 #[.agg #[.int .i64 k, .string tx, .int .i64 m, .int .i64 tk, .int .i64 tm, .string nm, .slice oa on oc, .slice ka kn kc], .agg #[.int .i64 k', .string tx', .int .i64 m', .int .i64 tk', .int .i64 tm', .string nm', .slice oa' on' oc', .slice ka' kn' kc']] w fun e w' => e = .returned (.bool true) ∧ w.grownBy w' none := by
  obtain ⟨rfl, rfl, rfl, rfl, rfl, rfl⟩ := h
  obtain ⟨rfl, rfl, rfl, rfl, rfl, rfl⟩ := h'
  exact same_any x S S' oa on oc oa' on' oc' ka kn kc ka' kn' kc' w h1 h2 h3 h4
theorem firstN_some {n x : Nd} (h : firstN n = some x) : ∃ f r b s, n.kids = f :: r ∧ f.kids.getLast? = some b ∧ b.kids = [s] ∧ s.kids = [x] := by
  unfold firstN at h
  split at h
  · cases h
  · rename_i f r hn
    split at h
    · cases h
    · rename_i b hb
      split at h
      · rename_i s hs
        split at h
        · rename_i y hy
          cases h
          exact ⟨f, r, b, s, hn, hb, hs, hy⟩
        · cases h
      · cases h
theorem first_results {t : Array Value} {W : World} {L : Nat} {v0 v1 v2 v3 v4 v5 v6 v7 er : Value} (hA : W.heap[L]? = some (.cells #[v0, v1, v2, v3, v4, v5, v6, v7] 28 (0, 0))) (h2 : t[2]?.getD undef = .pointer (some ⟨L, 0, none⟩)) (h3 : t[3]?.getD undef = er) :
    (results Tryz.f11 t).run Tryz.prog W = .ok (.tuple #[.agg #[v0, v1, v2, v3, v4, v5, v6, v7], er]) W := by
  obtain ⟨⟨q0, q1, q2, q3, q4, q5, q6, q7⟩, _⟩ := cells8_of _ L _ _ _ _ _ _ _ _ _ hA
  simp [results, Tryz.results11, go_sem, h2, h3, q0, q1, q2, q3, q4, q5, q6, q7]
set_option maxRecDepth 100000 in
set_option maxHeartbeats 4000000 in
theorem first_nil (k : Int) (tx : ByteArray) (m tk tm : Int) (nm : ByteArray) (oa : Option Addr) (on oc : Nat) (ka : Option Addr) (kc : Nat) (w : World) : Calls Tryz.prog 11 #[.agg #[.int .i64 k, .string tx, .int .i64 m, .int .i64 tk, .int .i64 tm, .string nm, .slice oa on oc, .slice ka 0 kc]] w fun e w' => w.grownBy w' none ∧ e = .returned (.tuple #[.agg #[.int .i64 0, .string ⟨#[]⟩, .int .i64 0, .int .i64 0, .int .i64 0, .string ⟨#[]⟩, .slice none 0 0, .slice none 0 0], .bool false]) := by
  go_enter Tryz.func11, Tryz.ntmps11
  have HZ := Lib.hid (blk_new2 w (.cells #[.int .i64 k, .string tx, .int .i64 m, .int .i64 tk, .int .i64 tm, .string nm, .slice oa on oc, .slice ka 0 kc] 28) (.cells #[.int .i64 0, .string ⟨#[]⟩, .int .i64 0, .int .i64 0, .int .i64 0, .string ⟨#[]⟩, .slice none 0 0, .slice none 0 0] 28))
  go_wp2_with fail
  refine bodyPost_ret (v := .tuple #[.agg #[.int .i64 0, .string ⟨#[]⟩, .int .i64 0, .int .i64 0, .int .i64 0, .string ⟨#[]⟩, .slice none 0 0, .slice none 0 0], .bool false]) (first_results HZ.out rfl rfl) rfl ⟨?_, rfl⟩
  repeat (first | with_reducible exact grownBy_refl _ _ | with_reducible assumption | with_reducible refine World.grownBy.gr_drew ?_ | with_reducible refine World.grownBy.gr_set ?_ (by simp) _ | with_reducible refine gr_alloc ?_ _)
set_option maxRecDepth 100000 in
set_option maxHeartbeats 4000000 in
theorem first_none (k : Int) (tx : ByteArray) (m tk tm : Int) (nm : ByteArray) (oa : Option Addr) (on oc : Nat) (kn kc g1 : Nat) (ya : Option Addr) (yc : Nat) (w : World) (hp : 0 < kn) (hg1 : g1 < w.heap.size) (p7 : w.cell? ⟨g1, 7, none⟩ = some (.slice ya 0 yc)) : Calls Tryz.prog 11 #[.agg #[.int .i64 k, .string tx, .int .i64 m, .int .i64 tk, .int .i64 tm, .string nm, .slice oa on oc, .slice (some ⟨g1, 0, none⟩) kn kc]] w fun e w' => w.grownBy w' none ∧ e = .returned (.tuple #[.agg #[.int .i64 0, .string ⟨#[]⟩, .int .i64 0, .int .i64 0, .int .i64 0, .string ⟨#[]⟩, .slice none 0 0, .slice none 0 0], .bool false]) := by
  go_enter Tryz.func11, Tryz.ntmps11
  have HZ := Lib.hid (blk_new2 w (.cells #[.int .i64 k, .string tx, .int .i64 m, .int .i64 tk, .int .i64 tm, .string nm, .slice oa on oc, .slice (some ⟨g1, 0, none⟩) kn kc] 28) (.cells #[.int .i64 0, .string ⟨#[]⟩, .int .i64 0, .int .i64 0, .int .i64 0, .string ⟨#[]⟩, .slice none 0 0, .slice none 0 0] 28))
  go_wp2_with fail
  refine bodyPost_ret (v := .tuple #[.agg #[.int .i64 0, .string ⟨#[]⟩, .int .i64 0, .int .i64 0, .int .i64 0, .string ⟨#[]⟩, .slice none 0 0, .slice none 0 0], .bool false]) (first_results HZ.out rfl rfl) rfl ⟨?_, rfl⟩
  repeat (first | with_reducible exact grownBy_refl _ _ | with_reducible assumption | with_reducible refine World.grownBy.gr_drew ?_ | with_reducible refine World.grownBy.gr_set ?_ (by simp) _ | with_reducible refine gr_alloc ?_ _)

theorem cell_old {w W : World} {r : Option Nat} (g : w.grownBy W r) {b o : Nat} {v : Value} (h : w.cell? ⟨b, o, none⟩ = some v) (hb : b < w.heap.size) (hr : r ≠ some b) : W.cell? ⟨b, o, none⟩ = some v := by
  have := g.block b hb (fun e => hr e.symm)
  unfold World.cell? at h ⊢
  simp only [this]
  exact h
theorem blk_drew {w : World} {b : Nat} {o : Obj} (h : w.heap[b]? = some o) : w.drew.heap[b]? = some o := h
set_option maxRecDepth 100000 in
set_option maxHeartbeats 4000000 in
theorem first_zn (k : Int) (tx : ByteArray) (m tk tm : Int) (nm : ByteArray) (oa : Option Addr) (on oc : Nat) (kn kc g1 yn yc g2 y1 : Nat) (v0 : Int) (v1 : ByteArray) (v2 v3 v4 : Int) (v5 : ByteArray) (fa : Option Addr) (fn fc : Nat) (za : Option Addr) (zn zc : Nat) (w : World) (hp : 0 < kn) (hk0 : ((kn : Int) == 0) = false) (hy0 : ((yn : Int) == 0) = false) (hg1 : g1 < w.heap.size) (p7 : w.cell? ⟨g1, 7, none⟩ = some (.slice (some ⟨g2, 0, none⟩) yn yc)) (hy1 : IntKind.i64.wrap ((yn : Int) - 1) = ((y1 : Nat) : Int)) (hy2 : y1 < yn) (hg2 : g2 < w.heap.size) (q0 : w.cell? ⟨g2, y1 * 8, none⟩ = some (.int .i64 v0)) (q1 : w.cell? ⟨g2, y1 * 8 + 1, none⟩ = some (.string v1)) (q2 : w.cell? ⟨g2, y1 * 8 + 2, none⟩ = some (.int .i64 v2)) (q3 : w.cell? ⟨g2, y1 * 8 + 3, none⟩ = some (.int .i64 v3)) (q4 : w.cell? ⟨g2, y1 * 8 + 4, none⟩ = some (.int .i64 v4)) (q5 : w.cell? ⟨g2, y1 * 8 + 5, none⟩ = some (.string v5)) (q6 : w.cell? ⟨g2, y1 * 8 + 6, none⟩ = some (.slice fa fn fc)) (q7 : w.cell? ⟨g2, y1 * 8 + 7, none⟩ = some (.slice za zn zc)) (hz : ¬ (zn : Int) = 1) : Calls Tryz.prog 11 #[.agg #[.int .i64 k, .string tx, .int .i64 m, .int .i64 tk, .int .i64 tm, .string nm, .slice oa on oc, .slice (some ⟨g1, 0, none⟩) kn kc]] w fun e w' => w.grownBy w' none ∧ e = .returned (.tuple #[.agg #[.int .i64 0, .string ⟨#[]⟩, .int .i64 0, .int .i64 0, .int .i64 0, .string ⟨#[]⟩, .slice none 0 0, .slice none 0 0], .bool false]) := by
  go_enter Tryz.func11, Tryz.ntmps11
  have HZ := Lib.hid (blk_new2 w (.cells #[.int .i64 k, .string tx, .int .i64 m, .int .i64 tk, .int .i64 tm, .string nm, .slice oa on oc, .slice (some ⟨g1, 0, none⟩) kn kc] 28) (.cells #[.int .i64 0, .string ⟨#[]⟩, .int .i64 0, .int .i64 0, .int .i64 0, .string ⟨#[]⟩, .slice none 0 0, .slice none 0 0] 28))
  go_wp2_with fail
  have HN := Lib.hid (blk_alloc (blk_new w (.cells #[.int .i64 k, .string tx, .int .i64 m, .int .i64 tk, .int .i64 tm, .string nm, .slice oa on oc, .slice (some ⟨g1, 0, none⟩) kn kc] 28)) (.cells #[.int .i64 0, .string ⟨#[]⟩, .int .i64 0, .int .i64 0, .int .i64 0, .string ⟨#[]⟩, .slice none 0 0, .slice none 0 0] 28))
  have HG := Lib.hid (show w.grownBy ((w.alloc (.cells #[.int .i64 k, .string tx, .int .i64 m, .int .i64 tk, .int .i64 tm, .string nm, .slice oa on oc, .slice (some ⟨g1, 0, none⟩) kn kc] 28)).alloc (.cells #[.int .i64 0, .string ⟨#[]⟩, .int .i64 0, .int .i64 0, .int .i64 0, .string ⟨#[]⟩, .slice none 0 0, .slice none 0 0] 28)) none by repeat (first | with_reducible exact grownBy_refl _ _ | with_reducible assumption | with_reducible refine World.grownBy.gr_drew ?_ | with_reducible refine World.grownBy.gr_set ?_ (by simp) _ | with_reducible refine gr_alloc ?_ _))
  generalize (w.alloc (.cells #[.int .i64 k, .string tx, .int .i64 m, .int .i64 tk, .int .i64 tm, .string nm, .slice oa on oc, .slice (some ⟨g1, 0, none⟩) kn kc] 28)).alloc (.cells #[.int .i64 0, .string ⟨#[]⟩, .int .i64 0, .int .i64 0, .int .i64 0, .string ⟨#[]⟩, .slice none 0 0, .slice none 0 0] 28) = W at *
  have P7 := cell_old HG.out p7 hg1 (by simp)
  have Q0 := cell_old HG.out q0 hg2 (by simp)
  have Q1 := cell_old HG.out q1 hg2 (by simp)
  have Q2 := cell_old HG.out q2 hg2 (by simp)
  have Q3 := cell_old HG.out q3 hg2 (by simp)
  have Q4 := cell_old HG.out q4 hg2 (by simp)
  have Q5 := cell_old HG.out q5 hg2 (by simp)
  have Q6 := cell_old HG.out q6 hg2 (by simp)
  have Q7 := cell_old HG.out q7 hg2 (by simp)
  have N7 := cell_of_row _ _ 7 _ _ _ HN.out
  simp at N7
  have hs0 := lt_of_heap HN.out
  have hs1 := lt_of_heap HZ.out
  have hs2 := Nat.lt_of_lt_of_le hg1 HG.out.size
  have hs3 := Nat.lt_of_lt_of_le hg2 HG.out.size
  clear p7 q0 q1 q2 q3 q4 q5 q6 q7
  obtain ⟨⟨z0, z1, z2, z3, z4, z5, z6, z7⟩, e0, e1, e2, e3, e4, e5, e6, e7⟩ := cells8_of W _ _ _ _ _ _ _ _ _ _ HZ.out
  go_region
  go_wp2_with fail
  have hA := blk_alloc (blk_put8 HZ.out (.int .i64 0) (.string ⟨#[]⟩) (.int .i64 0) (.int .i64 0) (.int .i64 0) (.string ⟨#[]⟩) (.slice none 0 0) (.slice none 0 0)) (.cells #[.int .i64 v0, .string v1, .int .i64 v2, .int .i64 v3, .int .i64 v4, .string v5, .slice fa fn fc, .slice za zn zc] 28)
  have hg := HG.out
  refine bodyPost_ret (v := .tuple #[.agg #[.int .i64 0, .string ⟨#[]⟩, .int .i64 0, .int .i64 0, .int .i64 0, .string ⟨#[]⟩, .slice none 0 0, .slice none 0 0], .bool false]) (first_results (blk_drew hA) rfl rfl) rfl ⟨?_, rfl⟩
  repeat (first | with_reducible exact grownBy_refl _ _ | with_reducible assumption | with_reducible refine World.grownBy.gr_drew ?_ | with_reducible refine World.grownBy.gr_set ?_ (by simp) _ | with_reducible refine gr_alloc ?_ _)
set_option maxRecDepth 100000 in
set_option maxHeartbeats 4000000 in
theorem first_un (k : Int) (tx : ByteArray) (m tk tm : Int) (nm : ByteArray) (oa : Option Addr) (on oc : Nat) (kn kc g1 yn yc g2 y1 : Nat) (v0 : Int) (v1 : ByteArray) (v2 v3 v4 : Int) (v5 : ByteArray) (fa : Option Addr) (fn fc : Nat) (zc g3 : Nat) (ua : Option Addr) (un uc : Nat) (w : World) (hp : 0 < kn) (hk0 : ((kn : Int) == 0) = false) (hy0 : ((yn : Int) == 0) = false) (hg1 : g1 < w.heap.size) (p7 : w.cell? ⟨g1, 7, none⟩ = some (.slice (some ⟨g2, 0, none⟩) yn yc)) (hy1 : IntKind.i64.wrap ((yn : Int) - 1) = ((y1 : Nat) : Int)) (hy2 : y1 < yn) (hg2 : g2 < w.heap.size) (q0 : w.cell? ⟨g2, y1 * 8, none⟩ = some (.int .i64 v0)) (q1 : w.cell? ⟨g2, y1 * 8 + 1, none⟩ = some (.string v1)) (q2 : w.cell? ⟨g2, y1 * 8 + 2, none⟩ = some (.int .i64 v2)) (q3 : w.cell? ⟨g2, y1 * 8 + 3, none⟩ = some (.int .i64 v3)) (q4 : w.cell? ⟨g2, y1 * 8 + 4, none⟩ = some (.int .i64 v4)) (q5 : w.cell? ⟨g2, y1 * 8 + 5, none⟩ = some (.string v5)) (q6 : w.cell? ⟨g2, y1 * 8 + 6, none⟩ = some (.slice fa fn fc)) (q7 : w.cell? ⟨g2, y1 * 8 + 7, none⟩ = some (.slice (some ⟨g3, 0, none⟩) 1 zc)) (hg3 : g3 < w.heap.size) (r7 : w.cell? ⟨g3, 7, none⟩ = some (.slice ua un uc)) (hu : ¬ (un : Int) = 1) : Calls Tryz.prog 11 #[.agg #[.int .i64 k, .string tx, .int .i64 m, .int .i64 tk, .int .i64 tm, .string nm, .slice oa on oc, .slice (some ⟨g1, 0, none⟩) kn kc]] w fun e w' => w.grownBy w' none ∧ e = .returned (.tuple #[.agg #[.int .i64 0, .string ⟨#[]⟩, .int .i64 0, .int .i64 0, .int .i64 0, .string ⟨#[]⟩, .slice none 0 0, .slice none 0 0], .bool false]) := by
  go_enter Tryz.func11, Tryz.ntmps11
  have HZ := Lib.hid (blk_new2 w (.cells #[.int .i64 k, .string tx, .int .i64 m, .int .i64 tk, .int .i64 tm, .string nm, .slice oa on oc, .slice (some ⟨g1, 0, none⟩) kn kc] 28) (.cells #[.int .i64 0, .string ⟨#[]⟩, .int .i64 0, .int .i64 0, .int .i64 0, .string ⟨#[]⟩, .slice none 0 0, .slice none 0 0] 28))
  go_wp2_with fail
  have HN := Lib.hid (blk_alloc (blk_new w (.cells #[.int .i64 k, .string tx, .int .i64 m, .int .i64 tk, .int .i64 tm, .string nm, .slice oa on oc, .slice (some ⟨g1, 0, none⟩) kn kc] 28)) (.cells #[.int .i64 0, .string ⟨#[]⟩, .int .i64 0, .int .i64 0, .int .i64 0, .string ⟨#[]⟩, .slice none 0 0, .slice none 0 0] 28))
  have HG := Lib.hid (show w.grownBy ((w.alloc (.cells #[.int .i64 k, .string tx, .int .i64 m, .int .i64 tk, .int .i64 tm, .string nm, .slice oa on oc, .slice (some ⟨g1, 0, none⟩) kn kc] 28)).alloc (.cells #[.int .i64 0, .string ⟨#[]⟩, .int .i64 0, .int .i64 0, .int .i64 0, .string ⟨#[]⟩, .slice none 0 0, .slice none 0 0] 28)) none by repeat (first | with_reducible exact grownBy_refl _ _ | with_reducible assumption | with_reducible refine World.grownBy.gr_drew ?_ | with_reducible refine World.grownBy.gr_set ?_ (by simp) _ | with_reducible refine gr_alloc ?_ _))
  generalize (w.alloc (.cells #[.int .i64 k, .string tx, .int .i64 m, .int .i64 tk, .int .i64 tm, .string nm, .slice oa on oc, .slice (some ⟨g1, 0, none⟩) kn kc] 28)).alloc (.cells #[.int .i64 0, .string ⟨#[]⟩, .int .i64 0, .int .i64 0, .int .i64 0, .string ⟨#[]⟩, .slice none 0 0, .slice none 0 0] 28) = W at *
  have P7 := cell_old HG.out p7 hg1 (by simp)
  have Q0 := cell_old HG.out q0 hg2 (by simp)
  have Q1 := cell_old HG.out q1 hg2 (by simp)
  have Q2 := cell_old HG.out q2 hg2 (by simp)
  have Q3 := cell_old HG.out q3 hg2 (by simp)
  have Q4 := cell_old HG.out q4 hg2 (by simp)
  have Q5 := cell_old HG.out q5 hg2 (by simp)
  have Q6 := cell_old HG.out q6 hg2 (by simp)
  have Q7 := cell_old HG.out q7 hg2 (by simp)
  have R7 := cell_old HG.out r7 hg3 (by simp)
  have hs4 := Nat.lt_of_lt_of_le hg3 HG.out.size
  have N7 := cell_of_row _ _ 7 _ _ _ HN.out
  simp at N7
  have hs0 := lt_of_heap HN.out
  have hs1 := lt_of_heap HZ.out
  have hs2 := Nat.lt_of_lt_of_le hg1 HG.out.size
  have hs3 := Nat.lt_of_lt_of_le hg2 HG.out.size
  clear r7 p7 q0 q1 q2 q3 q4 q5 q6 q7
  obtain ⟨⟨z0, z1, z2, z3, z4, z5, z6, z7⟩, e0, e1, e2, e3, e4, e5, e6, e7⟩ := cells8_of W _ _ _ _ _ _ _ _ _ _ HZ.out
  go_region
  go_wp2_with fail
  have hA := blk_alloc (blk_put8 HZ.out (.int .i64 0) (.string ⟨#[]⟩) (.int .i64 0) (.int .i64 0) (.int .i64 0) (.string ⟨#[]⟩) (.slice none 0 0) (.slice none 0 0)) (.cells #[.int .i64 v0, .string v1, .int .i64 v2, .int .i64 v3, .int .i64 v4, .string v5, .slice fa fn fc, .slice (some ⟨g3, 0, none⟩) 1 zc] 28)
  have hg := HG.out
  refine bodyPost_ret (v := .tuple #[.agg #[.int .i64 0, .string ⟨#[]⟩, .int .i64 0, .int .i64 0, .int .i64 0, .string ⟨#[]⟩, .slice none 0 0, .slice none 0 0], .bool false]) (first_results (blk_drew hA) rfl rfl) rfl ⟨?_, rfl⟩
  repeat (first | with_reducible exact grownBy_refl _ _ | with_reducible assumption | with_reducible refine World.grownBy.gr_drew ?_ | with_reducible refine World.grownBy.gr_set ?_ (by simp) _ | with_reducible refine gr_alloc ?_ _)
set_option maxRecDepth 100000 in
set_option maxHeartbeats 4000000 in
theorem first_x (k : Int) (tx : ByteArray) (m tk tm : Int) (nm : ByteArray) (oa : Option Addr) (on oc : Nat) (kn kc g1 yn yc g2 y1 : Nat) (v0 : Int) (v1 : ByteArray) (v2 v3 v4 : Int) (v5 : ByteArray) (fa : Option Addr) (fn fc : Nat) (zc g3 uc g4 : Nat) (k' : Int) (tx' : ByteArray) (m' tk' tm' : Int) (nm' : ByteArray) (oa' : Option Addr) (on' oc' : Nat) (ka' : Option Addr) (kn' kc' : Nat) (w : World) (hp : 0 < kn) (hk0 : ((kn : Int) == 0) = false) (hy0 : ((yn : Int) == 0) = false) (hg1 : g1 < w.heap.size) (p7 : w.cell? ⟨g1, 7, none⟩ = some (.slice (some ⟨g2, 0, none⟩) yn yc)) (hy1 : IntKind.i64.wrap ((yn : Int) - 1) = ((y1 : Nat) : Int)) (hy2 : y1 < yn) (hg2 : g2 < w.heap.size) (q0 : w.cell? ⟨g2, y1 * 8, none⟩ = some (.int .i64 v0)) (q1 : w.cell? ⟨g2, y1 * 8 + 1, none⟩ = some (.string v1)) (q2 : w.cell? ⟨g2, y1 * 8 + 2, none⟩ = some (.int .i64 v2)) (q3 : w.cell? ⟨g2, y1 * 8 + 3, none⟩ = some (.int .i64 v3)) (q4 : w.cell? ⟨g2, y1 * 8 + 4, none⟩ = some (.int .i64 v4)) (q5 : w.cell? ⟨g2, y1 * 8 + 5, none⟩ = some (.string v5)) (q6 : w.cell? ⟨g2, y1 * 8 + 6, none⟩ = some (.slice fa fn fc)) (q7 : w.cell? ⟨g2, y1 * 8 + 7, none⟩ = some (.slice (some ⟨g3, 0, none⟩) 1 zc)) (hg3 : g3 < w.heap.size) (r7 : w.cell? ⟨g3, 7, none⟩ = some (.slice (some ⟨g4, 0, none⟩) 1 uc)) (hg4 : g4 < w.heap.size) (x0 : w.cell? ⟨g4, 0, none⟩ = some (.int .i64 k')) (x1 : w.cell? ⟨g4, 1, none⟩ = some (.string tx')) (x2 : w.cell? ⟨g4, 2, none⟩ = some (.int .i64 m')) (x3 : w.cell? ⟨g4, 3, none⟩ = some (.int .i64 tk')) (x4 : w.cell? ⟨g4, 4, none⟩ = some (.int .i64 tm')) (x5 : w.cell? ⟨g4, 5, none⟩ = some (.string nm')) (x6 : w.cell? ⟨g4, 6, none⟩ = some (.slice oa' on' oc')) (x7 : w.cell? ⟨g4, 7, none⟩ = some (.slice ka' kn' kc')) : Calls Tryz.prog 11 #[.agg #[.int .i64 k, .string tx, .int .i64 m, .int .i64 tk, .int .i64 tm, .string nm, .slice oa on oc, .slice (some ⟨g1, 0, none⟩) kn kc]] w fun e w' => w.grownBy w' none ∧ e = .returned (.tuple #[.agg #[.int .i64 k', .string tx', .int .i64 m', .int .i64 tk', .int .i64 tm', .string nm', .slice oa' on' oc', .slice ka' kn' kc'], .bool true]) := by
  go_enter Tryz.func11, Tryz.ntmps11
  have HZ := Lib.hid (blk_new2 w (.cells #[.int .i64 k, .string tx, .int .i64 m, .int .i64 tk, .int .i64 tm, .string nm, .slice oa on oc, .slice (some ⟨g1, 0, none⟩) kn kc] 28) (.cells #[.int .i64 0, .string ⟨#[]⟩, .int .i64 0, .int .i64 0, .int .i64 0, .string ⟨#[]⟩, .slice none 0 0, .slice none 0 0] 28))
  go_wp2_with fail
  have HN := Lib.hid (blk_alloc (blk_new w (.cells #[.int .i64 k, .string tx, .int .i64 m, .int .i64 tk, .int .i64 tm, .string nm, .slice oa on oc, .slice (some ⟨g1, 0, none⟩) kn kc] 28)) (.cells #[.int .i64 0, .string ⟨#[]⟩, .int .i64 0, .int .i64 0, .int .i64 0, .string ⟨#[]⟩, .slice none 0 0, .slice none 0 0] 28))
  have HG := Lib.hid (show w.grownBy ((w.alloc (.cells #[.int .i64 k, .string tx, .int .i64 m, .int .i64 tk, .int .i64 tm, .string nm, .slice oa on oc, .slice (some ⟨g1, 0, none⟩) kn kc] 28)).alloc (.cells #[.int .i64 0, .string ⟨#[]⟩, .int .i64 0, .int .i64 0, .int .i64 0, .string ⟨#[]⟩, .slice none 0 0, .slice none 0 0] 28)) none by repeat (first | with_reducible exact grownBy_refl _ _ | with_reducible assumption | with_reducible refine World.grownBy.gr_drew ?_ | with_reducible refine World.grownBy.gr_set ?_ (by simp) _ | with_reducible refine gr_alloc ?_ _))
  generalize (w.alloc (.cells #[.int .i64 k, .string tx, .int .i64 m, .int .i64 tk, .int .i64 tm, .string nm, .slice oa on oc, .slice (some ⟨g1, 0, none⟩) kn kc] 28)).alloc (.cells #[.int .i64 0, .string ⟨#[]⟩, .int .i64 0, .int .i64 0, .int .i64 0, .string ⟨#[]⟩, .slice none 0 0, .slice none 0 0] 28) = W at *
  have P7 := cell_old HG.out p7 hg1 (by simp)
  have Q0 := cell_old HG.out q0 hg2 (by simp)
  have Q1 := cell_old HG.out q1 hg2 (by simp)
  have Q2 := cell_old HG.out q2 hg2 (by simp)
  have Q3 := cell_old HG.out q3 hg2 (by simp)
  have Q4 := cell_old HG.out q4 hg2 (by simp)
  have Q5 := cell_old HG.out q5 hg2 (by simp)
  have Q6 := cell_old HG.out q6 hg2 (by simp)
  have Q7 := cell_old HG.out q7 hg2 (by simp)
  have R7 := cell_old HG.out r7 hg3 (by simp)
  have hs4 := Nat.lt_of_lt_of_le hg3 HG.out.size
  have X0 := cell_old HG.out x0 hg4 (by simp)
  have X1 := cell_old HG.out x1 hg4 (by simp)
  have X2 := cell_old HG.out x2 hg4 (by simp)
  have X3 := cell_old HG.out x3 hg4 (by simp)
  have X4 := cell_old HG.out x4 hg4 (by simp)
  have X5 := cell_old HG.out x5 hg4 (by simp)
  have X6 := cell_old HG.out x6 hg4 (by simp)
  have X7 := cell_old HG.out x7 hg4 (by simp)
  have hs5 := Nat.lt_of_lt_of_le hg4 HG.out.size
  have N7 := cell_of_row _ _ 7 _ _ _ HN.out
  simp at N7
  have hs0 := lt_of_heap HN.out
  have hs1 := lt_of_heap HZ.out
  have hs2 := Nat.lt_of_lt_of_le hg1 HG.out.size
  have hs3 := Nat.lt_of_lt_of_le hg2 HG.out.size
  clear x0 x1 x2 x3 x4 x5 x6 x7 r7 p7 q0 q1 q2 q3 q4 q5 q6 q7
  obtain ⟨⟨z0, z1, z2, z3, z4, z5, z6, z7⟩, e0, e1, e2, e3, e4, e5, e6, e7⟩ := cells8_of W _ _ _ _ _ _ _ _ _ _ HZ.out
  go_region
  go_wp2_with fail
  have hA := blk_alloc (blk_put8 HZ.out (.int .i64 k') (.string tx') (.int .i64 m') (.int .i64 tk') (.int .i64 tm') (.string nm') (.slice oa' on' oc') (.slice ka' kn' kc')) (.cells #[.int .i64 v0, .string v1, .int .i64 v2, .int .i64 v3, .int .i64 v4, .string v5, .slice fa fn fc, .slice (some ⟨g3, 0, none⟩) 1 zc] 28)
  have hg := HG.out
  refine bodyPost_ret (v := .tuple #[.agg #[.int .i64 k', .string tx', .int .i64 m', .int .i64 tk', .int .i64 tm', .string nm', .slice oa' on' oc', .slice ka' kn' kc'], .bool true]) (first_results (blk_drew hA) rfl rfl) rfl ⟨?_, rfl⟩
  repeat (first | with_reducible exact grownBy_refl _ _ | with_reducible assumption | with_reducible refine World.grownBy.gr_drew ?_ | with_reducible refine World.grownBy.gr_set ?_ (by simp) _ | with_reducible refine gr_alloc ?_ _)

theorem first_any (k : Int) (tx : ByteArray) (m tk tm : Int) (nm : ByteArray) (n : Nd) (S : Nat → Prop) (oa : Option Addr) (on oc : Nat) (ka : Option Addr) (kn kc : Nat) (w : World) (h : RepK w S (.slice ka kn kc) n.kids) :
    Calls Tryz.prog 11 #[.agg #[.int .i64 k, .string tx, .int .i64 m, .int .i64 tk, .int .i64 tm, .string nm, .slice oa on oc, .slice ka kn kc]] w (FirstRes (firstN n) S w) := by
  have hn := h.len
  have HR : ∀ o, o = firstN n → Calls Tryz.prog 11 #[.agg #[.int .i64 k, .string tx, .int .i64 m, .int .i64 tk, .int .i64 tm, .string nm, .slice oa on oc, .slice ka kn kc]] w (FirstRes o S w) := by
    intro o ho
    unfold firstN at ho
    cases hk : n.kids with
    | nil =>
      rw [hk] at ho hn
      subst ho
      have hn0 : kn = 0 := hn
      subst hn0
      exact first_nil k tx m tk tm nm oa on oc ka kc w
    | cons f r =>
      rw [hk] at ho hn h
      have hp : 0 < kn := by simp at hn; omega
      have hk0 : ((kn : Int) == 0) = false := by simp; omega
      obtain ⟨g1, xa, xn, xc, ya, yn, yc, rfl, hg1, ⟨-, -, -, -, -, -, -, p7⟩, -, hf⟩ := h.kidN 0 (by simp)
      have p7' : w.cell? ⟨g1, 7, none⟩ = some (.slice ya yn yc) := by simpa using p7
      replace hf : RepK w S (.slice ya yn yc) f.kids := hf
      have hfn := hf.len
      clear p7 h hk
      cases hl : f.kids.getLast? with
      | none =>
        have hl' := List.getLast?_eq_none_iff.1 hl
        rw [hl'] at hfn
        have hn0 : yn = 0 := hfn
        subst hn0
        simp only [hl] at ho
        subst ho
        exact first_none k tx m tk tm nm oa on oc kn kc g1 ya yc w hp hg1 p7'
      | some b =>
        simp only [hl] at ho
        have hfl : 0 < f.kids.length := by
          cases hf0 : f.kids with
          | nil => rw [hf0] at hl; cases hl
          | cons _ _ => simp
        have hy0 : ((yn : Int) == 0) = false := by simp; omega
        have hy1 : IntKind.i64.wrap ((yn : Int) - 1) = ((yn - 1 : Nat) : Int) := by
          obtain ⟨_, _, _, _, _, hm⟩ := hf.some_of hfl
          rw [IntWalk.i64_in _ (by unfold maxLen at hm; omega)]; omega
        have hy2 : yn - 1 < yn := by omega
        have hbl : ∃ hb : yn - 1 < f.kids.length, f.kids[yn - 1] = b := by
          refine ⟨by omega, ?_⟩
          rw [List.getLast?_eq_getElem?] at hl
          have := List.getElem?_eq_some_iff.1 hl
          obtain ⟨h1, h2⟩ := this
          subst hfn
          exact h2
        obtain ⟨hb1, hb2⟩ := hbl
        obtain ⟨g2, xa2, xn2, xc2, za, zn, zc, rfl, hg2, ⟨q0, q1, q2, q3, q4, q5, q6, q7⟩, -, hbk⟩ := hf.kidN (yn - 1) hb1
        rw [hb2] at q0 q1 q2 q3 q4 q5 hbk
        have hzn := hbk.len
        have hcs : (zn ≠ 1 ∧ o = none) ∨ ∃ s : Nd, zn = 1 ∧ b.kids = [s] ∧ o = (match s.kids with | [x] => some x | _ => none) := by
          cases hbk0 : b.kids with
          | nil => rw [hbk0] at hzn ho; exact .inl ⟨by rw [hzn]; decide, ho⟩
          | cons s l => cases l with
            | nil => rw [hbk0] at hzn ho; exact .inr ⟨s, hzn, rfl, ho⟩
            | cons _ _ => rw [hbk0] at hzn ho; exact .inl ⟨by rw [hzn]; simp, ho⟩
        clear ho hzn
        rcases hcs with ⟨hz1, rfl⟩ | ⟨s, rfl, hs, ho⟩
        · exact first_zn k tx m tk tm nm oa on oc kn kc g1 yn yc g2 (yn - 1) _ _ _ _ _ _ _ _ _ za zn zc w hp hk0 hy0 hg1 p7' hy1 hy2 hg2 q0 q1 q2 q3 q4 q5 q6 q7 (by omega)
        · rw [hs] at hbk
          obtain ⟨g3, _, _, _, ua, un, uc, rfl, hg3, ⟨-, -, -, -, -, -, -, r7⟩, -, hsk⟩ := hbk.kidN 0 (by simp)
          have r7' : w.cell? ⟨g3, 7, none⟩ = some (.slice ua un uc) := by simpa using r7
          replace hsk : RepK w S (.slice ua un uc) s.kids := hsk
          have hun := hsk.len
          have hcs : (un ≠ 1 ∧ o = none) ∨ ∃ x : Nd, un = 1 ∧ s.kids = [x] ∧ o = some x := by
            cases hsk0 : s.kids with
            | nil => rw [hsk0] at hun ho; exact .inl ⟨by rw [hun]; decide, ho⟩
            | cons x l => cases l with
              | nil => rw [hsk0] at hun ho; exact .inr ⟨x, hun, rfl, ho⟩
              | cons _ _ => rw [hsk0] at hun ho; exact .inl ⟨by rw [hun]; simp, ho⟩
          clear r7 ho hun
          rcases hcs with ⟨hu1, rfl⟩ | ⟨x, rfl, hx, rfl⟩
          · exact first_un k tx m tk tm nm oa on oc kn kc g1 yn yc g2 (yn - 1) _ _ _ _ _ _ _ _ _ zc g3 ua un uc w hp hk0 hy0 hg1 p7' hy1 hy2 hg2 q0 q1 q2 q3 q4 q5 q6 q7 hg3 r7' (by omega)
          · rw [hx] at hsk
            obtain ⟨g4, oa', on', oc', ka', kn', kc', rfl, hg4, ⟨x0, x1, x2, x3, x4, x5, x6, x7⟩, hxo, hxk⟩ := hsk.kidN 0 (by simp)
            simp only [Nat.zero_mul, Nat.zero_add] at x0 x1 x2 x3 x4 x5 x6 x7
            refine (first_x k tx m tk tm nm oa on oc kn kc g1 yn yc g2 (yn - 1) _ _ _ _ _ _ _ _ _ zc g3 uc g4 _ _ _ _ _ _ _ _ _ _ _ _ w hp hk0 hy0 hg1 p7' hy1 hy2 hg2 q0 q1 q2 q3 q4 q5 q6 q7 hg3 r7' hg4 x0 x1 x2 x3 x4 x5 x6 x7).mono ?_
            rintro e w' ⟨hg, rfl⟩
            exact ⟨hg, _, _, _, _, _, _, oa', on', oc', ka', kn', kc', rfl, ⟨rfl, rfl, rfl, rfl, rfl, rfl⟩, hxo, hxk⟩
  exact HR _ rfl

end Go.Proofs.YtkbplcfehllbjaaGreatDoor
