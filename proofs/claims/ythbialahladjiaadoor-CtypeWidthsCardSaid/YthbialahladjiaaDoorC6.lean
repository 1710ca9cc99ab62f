/- ctype: append of one pair; what Same looks at, one pair of types with one part each. -/
import Derived.Test.YthbialahladjiaaDoorC5
import Derived.Deep.RegionLaw
import Derived.Deep.AppendLies
namespace Go.Proofs.YthbialahladjiaaDoor
open Go.RowKit
theorem undrew {a b : World} {r : Option Nat} (h : a.drew.grownBy b r) : a.grownBy b r := ⟨h.os, h.tape, h.output, h.size, h.block⟩
theorem infoPair : (Tryd.prog.info? 48).map (fun i => (i.zero, i.size, i.bytes)) = some (some (.agg #[.pointer none, .pointer none]), 2, 16) := by kernel_rfl
theorem step_append_pair {ops : Array Oper} {o : Oper} {a : Act} {w : World} {K : Act → World → Prop} {Q : Exit → Act → World → Prop} {E : Prop} (hgd : o.guard = none) (s x : Operand)
    (ho : o.op = .call { callee := .builtin .append, args := #[s, x], argTypes := #[49, 49] }) {B g n : Nat} {v xv p q : Value} {fr : Nat × Nat} {xs : List Value} (hs : a.eval s = v) (hxv : a.eval x = xv) (hx : xv = .slice (some ⟨g, 0, none⟩) 1 1)
    (hrow : w.ownsRow B 48 2 v n xs) (hb : w.heap[g]? = some (.cells #[p, q] 48 fr)) (hp : p.oneCell' = true) (hq : q.oneCell' = true) (hlen : n ≤ 1000000000) (hB : B ≤ w.heap.size)
    (h : ∀ a' n' c w', w'.ownsRow B 48 2 (.slice a' n' c) (n + 1) (xs ++ [p, q]) → w.grownBy w' v.ownBlock → K (a.put o.dst (.slice a' n' c)) w') :
    if Region.wanted o (yielded ops a.tmps) = true then Oper.wp Tryd.prog o a w K Q else E := by
  have hw : Region.wanted o (yielded ops a.tmps) = true := by simp [Region.wanted, hgd]
  rw [if_pos hw]
  subst hx
  obtain ⟨i0, hi, hz0, hz1, hz2⟩ := info_parts infoPair
  obtain ⟨v', w', hr, h2, h3, _, h5⟩ := run_append_own_at (P := Tryd.prog) w B 49 o.type 48 i0 _ 2 16 Tryd.underlying49 hi hz0 hz1 hz2 rfl (by decide) v n xs hrow ⟨g, 0, none⟩ 1 1 [p, q] rfl
    (fun j u hu => World.news_of_block hb j u (by simpa using hu)) (by intro u hu; simp at hu; rcases hu with rfl | rfl <;> assumption) (by unfold maxLen; omega) (by omega) hB
  have hf : ∃ a n c, v' = .slice a n c := by
    rcases h2.2 with ⟨rfl, _⟩ | ⟨g', cap, cur, hv, _⟩
    · exact ⟨_, _, _, rfl⟩
    · exact ⟨_, _, _, hv⟩
  obtain ⟨a', n', c, rfl⟩ := hf
  unfold Oper.wp execOp
  simp only [ho, resolve, invoke, builtin, Sem.run_bind, Sem.run_pure, Result.andThen_ok, List.map_toArray, List.map_cons, List.map_nil, hs, hxv, hr]
  exact h a' n' c w' h2 h3
set_option maxRecDepth 100000 in
set_option maxHeartbeats 4000000 in
theorem sameKid_one (g h g' h' c c' : Nat) (n : Int) (s : ByteArray) (w : World) (hb : w.heap[g]? = some (.cells #[.int .i64 5, .int .i64 n, .string s, .slice (some ⟨g', 0, none⟩) 1 c] 24 (0, 0))) (hb' : w.heap[h]? = some (.cells #[.int .i64 5, .int .i64 n, .string s, .slice (some ⟨h', 0, none⟩) 1 c'] 24 (0, 0))) :
    Calls Tryd.prog 33 #[prV ⟨g, 0, none⟩ ⟨h, 0, none⟩] w fun e w' => ∃ a m k, e = .returned (.tuple #[.slice a m k, .bool true]) ∧ w'.ownsRow w.heap.size 48 2 (.slice a m k) 1 [.pointer (some ⟨g', 0, none⟩), .pointer (some ⟨h', 0, none⟩)] ∧ w.grownBy w' none := by
  have hgl := lt_of_heap hb
  have hgl' := lt_of_heap hb'
  have HB := Lib.hid hb
  have HB' := Lib.hid hb'
  obtain ⟨a0, a1, a2, a3, _, _, _, _⟩ := cells4_of _ _ _ _ _ _ _ hb
  obtain ⟨b0, b1, b2, b3, _, _, _, _⟩ := cells4_of _ _ _ _ _ _ _ hb'
  clear hb hb'
  unfold prV
  go_enter Tryd.func33, Tryd.ntmps33
  go_wp2_with fail
  go_quiet (fail)
  go_wp2_with fail
  go_loopg [4, 64] 1 (fun g0 v i wr => Hid (wr.heap[w.heap.size]? = some (.cells #[.pointer (some ⟨g, 0, none⟩), .pointer (some ⟨h, 0, none⟩)] 48 (0, 0))) ∧ Hid (w.grownBy wr none) ∧
    (g0 = 1 ∧ i = .int .i64 0 ∧ v = .slice none 0 0 ∨ g0 = 0 ∧ i = .int .i64 1 ∧ ∃ a m k, v = .slice a m k ∧ Hid (wr.ownsRow w.heap.size 48 2 (.slice a m k) 1 [.pointer (some ⟨g', 0, none⟩), .pointer (some ⟨h', 0, none⟩)])))
  case atStart => exact ⟨blk_new _ _, gr_drewN (by repeat (first | with_reducible exact grownBy_refl _ _ | with_reducible assumption | with_reducible refine World.grownBy.gr_drew ?_ | with_reducible refine World.grownBy.gr_set ?_ (by simp) _ | with_reducible refine gr_alloc ?_ _)) _, .inl ⟨rfl, rfl, rfl⟩⟩
  case round =>
    obtain ⟨B0, HG, ⟨rfl, rfl, rfl⟩ | ⟨rfl, rfl, a, m, k, rfl, HO⟩⟩ := hrel
    · have x0 := cell_of_row _ _ 0 _ _ _ B0.out
      have x1 := cell_of_row _ _ 1 _ _ _ B0.out
      simp at x0 x1
      have y0 := HG.out.cell a3 (by simp)
      have y1 := HG.out.cell b3 (by simp)
      have hz := HG.out.size
      go_wp2_with fail
      go_region_law (first | (refine step_append_pair (n := 0) (xs := []) (B := w.heap.size) rfl (.tmp 67) (.tmp 83) rfl rfl rfl rfl (World.ownsRow_nil _ _ _ _) (blk_new _ _) rfl rfl (by omega) (by simp; omega) ?_; intro a m k w1 ho1 hg1; have HO := Lib.hid ho1; have HG1 := Lib.hid hg1; clear ho1 hg1))
      all_goals
        go_wp2_with fail
        go_roundg 0
        case measure => omega
        case rel =>
          have HH := Lib.hid (undrew (show (wr.alloc (.cells #[.pointer (some ⟨g', 0, none⟩), .pointer (some ⟨h', 0, none⟩)] 48)).drew.grownBy w1 none from HG1.out))
          exact ⟨blk_grown (blk_alloc B0.out _) HH.out, grownBy_trans (gr_alloc HG.out _) HH.out, .inr ⟨rfl, rfl, a, m, k, rfl, HO.out⟩⟩
    · go_wp2_with fail
      refine bodyPost_ret (v := .tuple #[.slice a m k, .bool true]) (by simp [results, Tryd.results33, go_sem]) rfl ⟨a, m, k, rfl, HO.out, HG.out⟩

end Go.Proofs.YthbialahladjiaaDoor
