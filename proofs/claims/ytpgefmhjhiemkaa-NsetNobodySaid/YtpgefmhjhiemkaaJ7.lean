/- push: a run put behind. -/
import Derived.Test.YtpgefmhjhiemkaaJ6
import Derived.IntWalk
import Derived.RegionTactic
import Derived.StillTailTactics
namespace Go.Proofs.Ytpgefmhjhiemkaa
open Go.RowKit
theorem i64w {z : Int} (h : -1000000000000 ≤ z) (k : z ≤ 1000000000000) : IntKind.i64.wrap z = z := IntWalk.i64_in _ (by omega)
theorem gr_weak {a b : World} {r : Option Nat} (h : a.grownBy b none) : a.grownBy b r := ⟨h.os, h.tape, h.output, h.size, fun k hk _ => h.block k hk (by simp)⟩
theorem two_new (W : World) (o1 o2 : Obj) (n : Nat) : (((W.alloc o1).drewN n).alloc o2).heap[W.heap.size + 1]? = some o2 := by
  have h := heap_alloc_new ((W.alloc o1).drewN n) o2
  rwa [show ((W.alloc o1).drewN n).heap.size = W.heap.size + 1 by simp] at h
/-- What push answers. -/
def PushIs (base : Nat) (W : World) (v : Value) (S : List (Int × Int)) (e : Ending) (w' : World) : Prop := ∃ v', e = .returned v' ∧ OwS base w' v' S ∧ W.grownBy w' v.ownBlock
set_option maxRecDepth 100000 in
set_option maxHeartbeats 4000000 in
theorem push_nil (base : Nat) (v : Value) (x1 x2 : Int) (W : World) (h : OwS base W v []) (hb : base ≤ W.heap.size) :
    Calls Try.prog 30 #[v, .agg #[.int .i64 x1, .int .i64 x2]] W (PushIs base W v [(x1, x2)]) := by
  obtain ⟨A, c, rfl, _, _, _⟩ := h.spn
  have HO := Lib.hid h
  clear h
  simp only [List.length_nil] at *
  go_enter Try.func30, Try.ntmps30
  go_wp2_with fail
  go_quiet (fail)
  go_wp2_with (at_builtin; go_must (refine app_spn rfl (.tmp 22) (.tmp 24) rfl base (.slice A 0 c) [] (x1, x2) rfl (HO.out.gr (gr_alloc (gr_drewN (gr_alloc (grownBy_refl _ _) _) _) _)) (W.heap.size + 1) (0, 0) rfl (two_new _ _ _ _) (by simp) (by simp; omega) ?_; intro v3 w3 ho3 hg3; have HG3 := Lib.hid (grownBy_trans (gr_weak (gr_alloc (gr_drewN (gr_alloc (grownBy_refl W none) _) _) _)) hg3); have HO3 := Lib.hid ho3; clear ho3 hg3))
  go_ret
  exact ⟨_, rfl, HO3.out, HG3.out⟩
set_option maxRecDepth 100000 in
set_option maxHeartbeats 4000000 in
theorem push_far (base : Nat) (v : Value) (T : List (Int × Int)) (p : Int × Int) (x1 x2 : Int) (W : World) (h : OwS base W v (T ++ [p])) (hb : base ≤ W.heap.size) (hl : T.length ≤ 10000000) (hp0 : 0 ≤ p.2) (hp1 : p.2 ≤ 1000000) (hx : p.2 + 1 < x1) :
    Calls Try.prog 30 #[v, .agg #[.int .i64 x1, .int .i64 x2]] W (PushIs base W v (T ++ [p] ++ [(x1, x2)])) := by
  obtain ⟨g, c, rfl, hbg, hg, hc, hcl⟩ := h.parts (by simp)
  obtain ⟨c0, c1⟩ := hcl T.length p (by simp)
  have HO := Lib.hid h
  obtain ⟨n, hn⟩ : ∃ n, n = T.length := ⟨_, rfl⟩
  have hlen : (T ++ [p]).length = n + 1 := by simp [hn]
  rw [hlen] at hc HO ⊢
  rw [← hn] at c0 c1 hl
  have HN := Lib.hid hn
  have HX := Lib.hid hx
  obtain ⟨p1, p2⟩ := p
  simp only at c0 c1 hp0 hp1 hx
  have t0 : ((n : Int) + 1 == 0) = false := by rw [beq_eq_false_iff_ne]; omega
  have t1 : decide (p2 + 1 < x1) = true := decide_eq_true hx
  have w1 : IntKind.i64.wrap (p2 + 1) = p2 + 1 := i64w (by omega) (by omega)
  have w2 : IntKind.i64.wrap ((n : Int) + 1 - 1) = n := by rw [i64w (by omega) (by omega)]; omega
  have w3 : IntKind.i64.wrap (n : Int) = n := i64w (by omega) (by omega)
  clear hcl h hlen hn hx
  go_enter Try.func30, Try.ntmps30
  go_wp2_with fail
  go_quiet (fail)
  clear t0 t1 w1 w2 w3
  go_wp2_with (at_builtin; go_must (refine app_spn rfl (.tmp 22) (.tmp 24) rfl base (.slice (some ⟨g, 0, none⟩) (n + 1) c) (T ++ [(p1, p2)]) (x1, x2) rfl (HO.out.gr (gr_alloc (gr_drewN (gr_alloc (grownBy_refl _ _) _) _) _)) (W.heap.size + 1) (0, 0) rfl (two_new _ _ _ _) (by have := HN.out; simp; omega) (by simp; omega) ?_; intro v3 w3 ho3 hg3; have HG3 := Lib.hid (grownBy_trans (gr_weak (gr_alloc (gr_drewN (gr_alloc (grownBy_refl W none) _) _) _)) hg3); have HO3 := Lib.hid ho3; clear ho3 hg3))
  go_ret
  exact ⟨_, rfl, by simpa using HO3.out, HG3.out⟩
theorem flat_last (T : List (Int × Int)) (p : Int × Int) (m : Int) : (flatC spC (T ++ [p])).set (T.length * 2 + 1) (.int .i64 m) = flatC spC (T ++ [(p.1, m)]) := by
  rw [flat_app, flat_app, List.set_append_right _ _ (by rw [flat_len spC_size]; omega), flat_len spC_size]
  congr 1
  rw [show T.length * 2 + 1 - T.length * 2 = 1 by omega]
  rfl
theorem OwS.last {base g c n : Nat} {W : World} {T : List (Int × Int)} {p : Int × Int} (h : OwS base W (.slice (some ⟨g, 0, none⟩) (n + 1) c) (T ++ [p])) (hn : n = T.length) (m : Int) :
    OwS base (W.setCell ⟨g, n * 2 + 1, none⟩ (.int .i64 m)) (.slice (some ⟨g, 0, none⟩) (n + 1) c) (T ++ [(p.1, m)]) ∧ W.grownBy (W.setCell ⟨g, n * 2 + 1, none⟩ (.int .i64 m)) (some g) := by
  subst hn
  have h' : W.ownsRow base 47 2 (.slice (some ⟨g, 0, none⟩) (T.length + 1) c) (T.length + 1) (flatC spC (T ++ [p])) := by
    unfold OwS at h
    rwa [show (T ++ [p]).length = T.length + 1 by simp] at h
  obtain ⟨h1, h2⟩ := World.ownsRow.stored h' (T.length * 2 + 1) (.int .i64 m)
  rw [flat_last] at h1
  refine ⟨?_, h2⟩
  unfold OwS
  rwa [show (T ++ [(p.1, m)]).length = T.length + 1 by simp]
set_option maxRecDepth 100000 in
set_option maxHeartbeats 4000000 in
theorem push_near (base : Nat) (v : Value) (T : List (Int × Int)) (p : Int × Int) (x1 x2 : Int) (W : World) (h : OwS base W v (T ++ [p])) (hl : T.length ≤ 10000000) (hp0 : 0 ≤ p.2) (hp1 : p.2 ≤ 1000000) (hx : ¬ p.2 + 1 < x1) :
    Calls Try.prog 30 #[v, .agg #[.int .i64 x1, .int .i64 x2]] W (PushIs base W v (T ++ [(p.1, max p.2 x2)])) := by
  obtain ⟨g, c, rfl, hbg, hg, hc, hcl⟩ := h.parts (by simp)
  obtain ⟨c0, c1⟩ := hcl T.length p (by simp)
  have HO := Lib.hid h
  obtain ⟨n, hn⟩ : ∃ n, n = T.length := ⟨_, rfl⟩
  have hlen : (T ++ [p]).length = n + 1 := by simp [hn]
  rw [hlen] at hc HO ⊢
  rw [← hn] at c0 c1 hl
  have HN := Lib.hid hn
  obtain ⟨p1, p2⟩ := p
  obtain ⟨m, hm⟩ : ∃ m, m = max p2 x2 := ⟨_, rfl⟩
  simp only [← hm] at c0 c1 hp0 hp1 hx ⊢
  have HM := Lib.hid hm
  have t0 : ((n : Int) + 1 == 0) = false := by rw [beq_eq_false_iff_ne]; omega
  have t1 : decide (p2 + 1 < x1) = false := decide_eq_false hx
  have w1 : IntKind.i64.wrap (p2 + 1) = p2 + 1 := i64w (by omega) (by omega)
  have w2 : IntKind.i64.wrap ((n : Int) + 1 - 1) = n := by rw [i64w (by omega) (by omega)]; omega
  have w3 : IntKind.i64.wrap (n : Int) = n := i64w (by omega) (by omega)
  have hfz := HO.out.frz (n * 2 + 1)
  clear hcl h hlen hn hx hm
  go_enter Try.func30, Try.ntmps30
  go_wp2_with fail
  go_quiet (fail)
  clear t0 t1 w1 w2 w3
  go_wp2_with fail
  generalize hw2 : (W.alloc (.cells #[.int .i64 x1, .int .i64 x2] 47)).drewN nq = w2
  have HG2 := Lib.hid (show W.grownBy w2 none by rw [← hw2]; exact gr_drewN (gr_alloc (grownBy_refl _ _) _) _)
  have e0 : w2.cell? ⟨g, n * 2, none⟩ = some (.int .i64 p1) := (World.cell?_of_block (HG2.out.block g hg (by simp))).trans c0
  have e1 : w2.cell? ⟨g, n * 2 + 1, none⟩ = some (.int .i64 p2) := (World.cell?_of_block (HG2.out.block g hg (by simp))).trans c1
  have ef : w2.frozen? ⟨g, n * 2 + 1, none⟩ = false := (World.frozen?_of_block (HG2.out.block g hg (by simp))).trans hfz
  have d1 : w2.cell? ⟨W.heap.size, 1, none⟩ = some (.int .i64 x2) := by
    rw [← hw2]
    exact (box2 (x := (x1, x2)) (heap_alloc_new W (.cells (spC (x1, x2)) 47))).2
  clear hw2 c0 c1 hfz
  go_still_tail 8, (by kernel_rfl)
  change wpList _ _ _ _ _ w2.drew
  go_wp2_with fail
  · go_ret
    obtain rfl : m = x2 := by have := HM.out; omega
    obtain ⟨k1, k2⟩ := (HO.out.gr HG2.out).last HN.out m
    exact ⟨_, rfl, k1.gr (grownBy_refl _ _).gr_drew, (grownBy_trans (gr_weak HG2.out) k2).gr_drew⟩
  · go_ret
    obtain rfl : m = p2 := by have := HM.out; omega
    obtain ⟨k1, k2⟩ := (HO.out.gr HG2.out).last HN.out m
    exact ⟨_, rfl, k1.gr (grownBy_refl _ _).gr_drew, (grownBy_trans (gr_weak HG2.out) k2).gr_drew⟩
theorem push_any (base : Nat) (v : Value) (S : List (Int × Int)) (x : Int × Int) (W : World) (h : OwS base W v S) (hb : base ≤ W.heap.size) (hl : S.length ≤ 10000000) (hin : SpIn S) (hok : SpOk S) :
    Calls Try.prog 30 #[v, .agg #[.int .i64 x.1, .int .i64 x.2]] W (PushIs base W v (pushI S x)) := by
  by_cases h0 : S = []
  · subst h0
    rw [pushI_nil]
    exact push_nil base v x.1 x.2 W h hb
  · obtain ⟨T, p, rfl⟩ := snoc_of h0
    have hp := hin p (by simp)
    have hp1 := (spOk_iff.1 hok).1 p (by simp)
    rw [List.length_append] at hl
    rw [pushI_snoc]
    split
    · rename_i hc
      exact push_far base v T p x.1 x.2 W h hb (by omega) (by omega) hp.2 hc
    · rename_i hc
      exact push_near base v T p x.1 x.2 W h (by omega) (by omega) hp.2 hc

end Go.Proofs.Ytpgefmhjhiemkaa
