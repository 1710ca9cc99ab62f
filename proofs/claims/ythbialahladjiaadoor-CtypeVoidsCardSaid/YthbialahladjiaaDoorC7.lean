/- ctype: every, at two pointers to types of different kinds. -/
import Derived.Test.YthbialahladjiaaDoorC6
namespace Go.Proofs.YthbialahladjiaaDoor
open Go.RowKit
open Go.ChangeMaps
theorem grownBy_setBlock {a b : World} {m t : Nat} {es : Array MapEntry} (h : a.grownBy b none) (hm : a.heap.size ≤ m) (hb : b.heap[m]? = some (.map es t)) (o : Obj) : a.grownBy (setBlock b m o) none :=
  ⟨h.os, h.tape, h.output, by simp [setBlock]; exact h.size, fun k hk hn => by rw [heap_setBlock_other hb o (by omega)]; exact h.block k hk hn⟩
theorem setBlock_other {b : World} {m t k : Nat} {es : Array MapEntry} {o' : Obj} (h : b.heap[k]? = some o') (hb : b.heap[m]? = some (.map es t)) (hne : k ≠ m) (o : Obj) : (setBlock b m o).heap[k]? = some o' := by
  rw [heap_setBlock_other hb o hne]; exact h
theorem gr_own {a b c : World} {r : Option Nat} (h : a.grownBy b none) (g : b.grownBy c r) (hr : ∀ k, r = some k → a.heap.size ≤ k) : a.grownBy c none :=
  ⟨g.os.trans h.os, g.tape.trans h.tape, g.output.trans h.output, Nat.le_trans h.size g.size, fun k hk _ => (g.block k (Nat.lt_of_lt_of_le hk h.size) (fun e => by have := hr k e.symm; omega)).trans (h.block k hk (by simp))⟩
theorem own1 {w : World} {B m c : Nat} {a : Option Addr} {p q : Value} (h : w.ownsRow B 48 2 (.slice a m c) 1 [p, q]) : ∃ g, a = some ⟨g, 0, none⟩ ∧ m = 1 ∧ B ≤ g ∧ g < w.heap.size ∧ w.cell? ⟨g, 0, none⟩ = some p ∧ w.cell? ⟨g, 1, none⟩ = some q := by
  rcases h.2 with ⟨_, h0⟩ | ⟨g, cap, cur, hv, hg, hh, _, _, _, ht⟩
  · cases h0
  · simp only [Value.slice.injEq] at hv
    obtain ⟨rfl, rfl, rfl⟩ := hv
    have hc := fun j u (hu : [p, q][j]? = some u) => World.news_of_block hh j u (by rw [← ht, List.getElem?_take] at hu; split at hu; exact hu; cases hu)
    exact ⟨g, rfl, rfl, hg, lt_of_heap hh, hc 0 p rfl, hc 1 q rfl⟩
/-- What stands when every's first round begins. -/
theorem first_key (w : World) (g h : Nat) : ∃ W1, (Instr.mapUpdate 64 (.map (some (w.heap.size + 1))) (prV ⟨g, 0, none⟩ ⟨h, 0, none⟩) (.agg #[])).run Tryd.prog ((w.alloc (.cells #[.pointer (some ⟨g, 0, none⟩), .pointer (some ⟨h, 0, none⟩)] 48)).alloc (.map #[] 0)) = .ok () W1 ∧
    w.grownBy W1 none ∧ W1.heap[w.heap.size]? = some (.cells #[.pointer (some ⟨g, 0, none⟩), .pointer (some ⟨h, 0, none⟩)] 48 (0, 0)) ∧ W1.heap[w.heap.size + 1]? = some (.map #[⟨prV ⟨g, 0, none⟩ ⟨h, 0, none⟩, .agg #[], 0⟩] 1) ∧ W1.heap.size = w.heap.size + 2 := by
  have hW : ((w.alloc (.cells #[.pointer (some ⟨g, 0, none⟩), .pointer (some ⟨h, 0, none⟩)] 48)).alloc (.map #[] 0)).heap[w.heap.size + 1]? = some (.map #[] 0) := blk_new2 _ _ _
  refine ⟨_, put_first (a := ⟨g, 0, none⟩) (b := ⟨h, 0, none⟩) (u := .agg #[]) _ hW, grownBy_setBlock (by repeat (first | with_reducible exact grownBy_refl _ _ | with_reducible assumption | with_reducible refine World.grownBy.gr_drew ?_ | with_reducible refine World.grownBy.gr_set ?_ (by simp) _ | with_reducible refine gr_alloc ?_ _)) (by omega) hW _, setBlock_other (blk_alloc (blk_new _ _) _) hW (by omega) _, heap_setBlock_same hW _, by simp [setBlock]⟩
theorem second_key {w wr : World} {g h g' h' : Nat} {cg cg' : Array Value} {tg tg' t n : Nat} {u : Value} {row : Obj} (hm : wr.heap[w.heap.size + 1]? = some (.map #[⟨prV ⟨g, 0, none⟩ ⟨h, 0, none⟩, u, n⟩] t)) (hne : g' ≠ g) (hb : wr.heap[g]? = some (.cells cg tg (0, 0))) (hd : wr.heap[g']? = some (.cells cg' tg' (0, 0)))
    (hg : w.grownBy wr none) (hr : wr.heap[w.heap.size + 2]? = some row) (hz : w.heap.size + 2 < wr.heap.size) :
    ∃ W2, (Instr.mapUpdate 64 (.map (some (w.heap.size + 1))) (prV ⟨g', 0, none⟩ ⟨h', 0, none⟩) (.agg #[])).run Tryd.prog ((wr.alloc (.cells #[.pointer (some ⟨g', 0, none⟩), .pointer (some ⟨h', 0, none⟩)] 48)).alloc (.cells #[] 57)) = .ok () W2 ∧
      w.grownBy W2 none ∧ W2.heap[wr.heap.size]? = some (.cells #[.pointer (some ⟨g', 0, none⟩), .pointer (some ⟨h', 0, none⟩)] 48 (0, 0)) ∧ W2.heap[w.heap.size + 2]? = some row ∧ W2.heap.size = wr.heap.size + 2 := by
  have hm' := blk_alloc (blk_alloc hm (.cells #[.pointer (some ⟨g', 0, none⟩), .pointer (some ⟨h', 0, none⟩)] 48)) (.cells #[] 57)
  refine ⟨_, put_second _ hm' (c := ⟨g', 0, none⟩) (d := ⟨h', 0, none⟩) (fun e => hne (by injection e)) (blk_alloc (blk_alloc hb _) _) (blk_alloc (blk_alloc hd _) _), grownBy_setBlock (gr_alloc (gr_alloc hg _) _) (by omega) hm' _, setBlock_other (blk_alloc (blk_new _ _) _) hm' (by omega) _, setBlock_other (blk_alloc (blk_alloc hr _) _) hm' (by omega) _, by simp [setBlock]⟩
set_option maxRecDepth 100000 in
set_option maxHeartbeats 4000000 in
theorem every_ptrs (g h g' h' c c' : Nat) (k k' n m m' : Int) (s r r' : ByteArray) (hk : ¬ k = k') (hne : g' ≠ g) (w : World) (hb : w.heap[g]? = some (.cells #[.int .i64 5, .int .i64 n, .string s, .slice (some ⟨g', 0, none⟩) 1 c] 24 (0, 0))) (hb' : w.heap[h]? = some (.cells #[.int .i64 5, .int .i64 n, .string s, .slice (some ⟨h', 0, none⟩) 1 c'] 24 (0, 0)))
    (hd : w.heap[g']? = some (.cells #[.int .i64 k, .int .i64 m, .string r, .slice none 0 0] 24 (0, 0))) (hd' : w.heap[h']? = some (.cells #[.int .i64 k', .int .i64 m', .string r', .slice none 0 0] 24 (0, 0))) :
    Calls Tryd.prog 32 #[prV ⟨g, 0, none⟩ ⟨h, 0, none⟩, .func (.func 33) #[] #[]] w fun e w' => e = .returned (.bool false) ∧ w.grownBy w' none := by
  have HB := Lib.hid hb
  have HB' := Lib.hid hb'
  have HD := Lib.hid hd
  have HD' := Lib.hid hd'
  have HK := Lib.hid hk
  have HN := Lib.hid hne
  clear hb hb' hd hd' hk hne
  have hmm := @run_makeMap Tryd.prog
  obtain ⟨W1, hins, hg1, hbox, hmap, hsz⟩ := first_key w g h
  have HG1 := Lib.hid hg1
  have HM := Lib.hid hmap
  have x0 := cell_of_row _ _ 0 _ _ _ hbox
  have x1 := cell_of_row _ _ 1 _ _ _ hbox
  simp at x0 x1
  clear hg1 hbox hmap
  unfold prV at *
  go_enter Tryd.func32, Tryd.ntmps32
  go_wp2_with fail
  have HS := Lib.hid hsz
  clear hins hmm hsz x0 x1
  go_loopg [6] 1 (fun g0 v wr => Hid (w.grownBy wr none) ∧
    (g0 = 1 ∧ v = .slice (some ⟨w.heap.size + 2, 0, none⟩) 1 1 ∧ Hid (wr.heap[w.heap.size + 2]? = some (.cells #[.pointer (some ⟨g, 0, none⟩), .pointer (some ⟨h, 0, none⟩)] 48 (0, 0))) ∧ Hid (wr.heap[w.heap.size + 1]? = some (.map #[⟨.agg #[.pointer (some ⟨g, 0, none⟩), .pointer (some ⟨h, 0, none⟩)], .agg #[], 0⟩] 1)) ∨
     g0 = 0 ∧ ∃ a m k, v = .slice a m k ∧ Hid (wr.ownsRow w.heap.size 48 2 (.slice a m k) 1 [.pointer (some ⟨g', 0, none⟩), .pointer (some ⟨h', 0, none⟩)])))
  case atStart => exact ⟨gr_alloc HG1.out _, .inl ⟨rfl, rfl, blk_new_at HS.out _, blk_alloc HM.out _⟩⟩
  case round =>
    obtain ⟨HG, ⟨rfl, rfl, HR, HM⟩ | ⟨rfl, a, m0, k0, rfl, HO⟩⟩ := hrel
    · have x0 := cell_of_row _ _ 0 _ _ _ HR.out
      have x1 := cell_of_row _ _ 1 _ _ _ HR.out
      simp at x0 x1
      go_wp2_with fail
      refine (sameKid_one g h g' h' c c' n s _ (blk_alloc (blk_grown HB.out HG.out) _) (blk_alloc (blk_grown HB'.out HG.out) _)).mono ?_
      rintro e w1 ⟨a, m1, k1, rfl, ho, hg⟩
      obtain ⟨gp, rfl, rfl, hgp, hgpl, p0, p1⟩ := own1 ho
      have HG2 := Lib.hid (grownBy_trans (gr_alloc HG.out _) hg)
      have HR2 := Lib.hid (blk_grown (blk_alloc HR.out _) hg)
      have HM2 := Lib.hid (blk_grown (blk_alloc HM.out _) hg)
      have P0 := Lib.hid p0
      have P1 := Lib.hid p1
      have hz := lt_of_heap HR.out
      simp at hgp
      have hgp2 : w.heap.size + 2 < gp := by omega
      clear ho hg p0 p1 hgp x0 x1
      go_wp2_with fail
      go_loopg [6, 44] 1 (fun g1 v i wi => Hid (w.grownBy wi none) ∧
        (g1 = 1 ∧ i = .int .i64 0 ∧ v = .slice (some ⟨w.heap.size + 2, 0, none⟩) 0 1 ∧ Hid (wi.heap[w.heap.size + 2]? = some (.cells #[.pointer (some ⟨g, 0, none⟩), .pointer (some ⟨h, 0, none⟩)] 48 (0, 0))) ∧ Hid (wi.heap[w.heap.size + 1]? = some (.map #[⟨.agg #[.pointer (some ⟨g, 0, none⟩), .pointer (some ⟨h, 0, none⟩)], .agg #[], 0⟩] 1)) ∧ gp < wi.heap.size ∧
          Hid (wi.cell? ⟨gp, 0, none⟩ = some (.pointer (some ⟨g', 0, none⟩))) ∧ Hid (wi.cell? ⟨gp, 1, none⟩ = some (.pointer (some ⟨h', 0, none⟩))) ∨
         g1 = 0 ∧ i = .int .i64 1 ∧ ∃ a m k, v = .slice a m k ∧ Hid (wi.ownsRow w.heap.size 48 2 (.slice a m k) 1 [.pointer (some ⟨g', 0, none⟩), .pointer (some ⟨h', 0, none⟩)])))
      case atStart => exact ⟨HG2.out, .inl ⟨rfl, rfl, rfl, HR2.out, HM2.out, hgpl, P0.out, P1.out⟩⟩
      case round =>
        obtain ⟨HG3, ⟨rfl, rfl, rfl, HR3, HM3, hgl3, P3, P4⟩ | ⟨rfl, rfl, a, m3, k3, rfl, HO⟩⟩ := hrel
        · have y0 := P3.out
          have y1 := P4.out
          have hlk := look_off (wr.alloc (.cells #[.pointer (some ⟨g', 0, none⟩), .pointer (some ⟨h', 0, none⟩)] 48)) (c := ⟨g', 0, none⟩) (d := ⟨h', 0, none⟩) (a := ⟨g, 0, none⟩) (b := ⟨h, 0, none⟩) (blk_alloc HM3.out _) (by simpa using HN.out) (blk_alloc (blk_grown HB.out HG3.out) _) (blk_alloc (blk_grown HD.out HG3.out) _)
          obtain ⟨W2, hup, hgW, hbW, hrW, hsW⟩ := second_key (w := w) (wr := wr) (g := g) (h := h) (g' := g') (h' := h') HM3.out HN.out (blk_grown HB.out HG3.out) (blk_grown HD.out HG3.out) HG3.out HR3.out (by omega)
          have z0 := cell_of_row _ _ 0 _ _ _ hbW
          have z1 := cell_of_row _ _ 1 _ _ _ hbW
          simp at z0 z1
          have HGW := Lib.hid hgW
          have HRW := Lib.hid hrW
          have HSW := Lib.hid hsW
          have hzW := hgW.size
          clear hgW hbW hrW hsW
          unfold prV at hlk hup
          obtain ⟨i0, hi, hz0, hz1, hz2⟩ := info_parts infoPair
          go_wp2_with (at_builtin; go_must (refine wpList_append_own_at _ rfl (.tmp 59) (.tmp 61) 49 rfl w.heap.size 48 i0 _ 2 16 Tryd.underlying49 hi hz0 hz1 hz2 rfl (by decide) _ 0 [] rfl (⟨rfl, .inr ⟨w.heap.size + 2, 1, _, rfl, by omega, blk_alloc HRW.out _, by omega, by unfold maxLen; omega, rfl, rfl⟩⟩) ⟨W2.heap.size, 0, none⟩ 1 1 [.pointer (some ⟨g', 0, none⟩), .pointer (some ⟨h', 0, none⟩)] rfl rfl (fun j u hu => World.news_of_block (blk_new _ _) j u (by simpa using hu)) (by intro u hu; simp at hu; rcases hu with rfl | rfl <;> rfl) (by unfold maxLen; omega) (by omega) (by simp; omega) ?_; intro v' w' ho' hg' hn' hb'))
          have HGv := Lib.hid hg'
          have HOv := Lib.hid ho'
          have hf : ∃ a n c, v' = .slice a n c := by
            rcases ho'.2 with ⟨rfl, _⟩ | ⟨g'', cap, cur, hv, _⟩
            · exact ⟨_, _, _, rfl⟩
            · exact ⟨_, _, _, hv⟩
          obtain ⟨a, n', c, rfl⟩ := hf
          clear hg' ho' hn' hb' hup hlk
          go_wp2_with fail
          go_roundg 0
          case measure => omega
          case rel => exact ⟨gr_own (gr_alloc HGW.out _) HGv.out (fun k hk => by have : w.heap.size + 2 = k := Option.some.inj hk; omega), .inr ⟨rfl, rfl, a, n', c, rfl, HOv.out⟩⟩
        · go_wp2_with fail
          go_roundg 0
          case measure => omega
          case rel => exact ⟨HG3.out, .inr ⟨rfl, a, m3, k3, rfl, HO.out⟩⟩
    · obtain ⟨gq, rfl, rfl, hgq, hgl, x0, x1⟩ := own1 HO.out
      go_wp2_with fail
      refine (sameKid_diff g' h' k m k' m' r r' _ _ HK.out _ (blk_alloc (blk_grown HD.out HG.out) _) (blk_alloc (blk_grown HD'.out HG.out) _)).mono ?_
      rintro e w1 ⟨rfl, hg⟩
      have HG2 := Lib.hid (grownBy_trans (gr_alloc HG.out _) hg)
      clear hg
      go_wp2_with fail
      go_ret
      exact ⟨rfl, HG2.out⟩

end Go.Proofs.YthbialahladjiaaDoor
