/- crosstreeref01.Same, where the answer is yes. -/
import Derived.Test.YthbhlmkgbinegaaDoorR1
namespace Go.Proofs.YthbhlmkgbinegaaDoor
open Go.RowKit
def T4.like (pl : Bool) (a b : T4) : Prop := a.kind = b.kind ∧ a.text = b.text ∧ a.val = b.val ∧ (pl = true → a.pos = b.pos)
set_option maxRecDepth 100000 in
set_option maxHeartbeats 4000000 in
theorem same_no (v1 v2 : Value) (l1 l2 : List T4) (w : World) (h1 : Row w v1 l1) (h2 : Row w v2 l2) (hlen : l1.length = l2.length) (hc : l1.length ≤ 20000)
    (heq : ∀ k (hk : k < l1.length) (hk2 : k < l2.length), (l1[k]).like false (l2[k])) :
    Calls Tryd.prog 14 #[v1, v2, .bool false] w fun e w' => e = .returned (.bool true) ∧ ∃ n, w' = w.drewN n := by
  obtain ⟨a1, cap1, rfl, hc1⟩ := h1
  obtain ⟨a2, cap2, rfl, hc2⟩ := h2
  have HC1 := Lib.hid hc1
  have HC2 := Lib.hid hc2
  have HEQ := Lib.hid heq
  have HL := Lib.hid hlen
  rw [← hlen]
  clear hc1 hc2 heq hlen
  go_enter Tryd.func14, Tryd.ntmps14
  go_wp2_with fail
  go_loopw [7] (fun i wr => ∃ (k n : Nat), k ≤ l1.length ∧ i = .int .i64 k ∧ Hid (wr = w.drewN n)) (fun i _ => l1.length - (intOf i).toNat)
  case atStart => exact ⟨0, 0, Nat.zero_le _, rfl, rfl⟩
  case round =>
    obtain ⟨k, n, hk, rfl, hw⟩ := hrel
    obtain rfl := hw.out
    clear hw
    by_cases hlt : k < l1.length
    · obtain ⟨g1, rfl, _, hcell1⟩ := HC1.out (by intro e; rw [e] at hlt; simp at hlt)
      obtain ⟨g2, rfl, _, hcell2⟩ := HC2.out (by intro e; have := HL.out; rw [e] at this; simp at this; rw [this] at hlt; simp at hlt)
      have hlt2 : k < l2.length := by have := HL.out; omega
      obtain ⟨p0, p1, p2, p3⟩ := cellsOf_get l1 k hlt
      obtain ⟨q0, q1, q2, q3⟩ := cellsOf_get l2 k hlt2
      obtain ⟨e1, e2, e3, _⟩ := HEQ.out k hlt hlt2
      rw [← e1] at q0
      rw [← e2] at q2
      rw [← e3] at q3
      generalize l1[k].kind = kd at *
      generalize l1[k].val = vl at *
      obtain ⟨tx, htx⟩ : ∃ tx : ByteArray, ⟨l1[k].text.toArray⟩ = tx := ⟨_, rfl⟩
      rw [htx] at p2 q2
      have c0 : w.cell? ⟨g1, k * 4, none⟩ = some (.int .i64 kd) := by rw [hcell1 _ (by omega)]; exact p0
      have c2 : w.cell? ⟨g1, k * 4 + 2, none⟩ = some (.string tx) := by rw [hcell1 _ (by omega)]; exact p2
      have c3 : w.cell? ⟨g1, k * 4 + 3, none⟩ = some (.int .i64 vl) := by rw [hcell1 _ (by omega)]; exact p3
      have d0 : w.cell? ⟨g2, k * 4, none⟩ = some (.int .i64 kd) := by rw [hcell2 _ (by omega)]; exact q0
      have d2 : w.cell? ⟨g2, k * 4 + 2, none⟩ = some (.string tx) := by rw [hcell2 _ (by omega)]; exact q2
      have d3 : w.cell? ⟨g2, k * 4 + 3, none⟩ = some (.int .i64 vl) := by rw [hcell2 _ (by omega)]; exact q3
      clear hcell1 hcell2 p0 p1 p2 p3 q0 q1 q2 q3 e1 e2 e3 htx
      have hlt' : (k : Int) < l1.length := by omega
      have hlt2' : (k : Int) < l2.length := by omega
      go_wp2_with fail
      go_quiet (fail)
      go_wp2_with fail
      exact ⟨⟨k + 1, _, by omega, by go_num, rfl⟩, by simp [intOf]; omega⟩
    · go_wp2_with fail
      go_ret
      exact ⟨rfl, n, rfl⟩
set_option maxRecDepth 100000 in
set_option maxHeartbeats 4000000 in
theorem same_yes (v1 v2 : Value) (l1 l2 : List T4) (w : World) (h1 : Row w v1 l1) (h2 : Row w v2 l2) (hlen : l1.length = l2.length) (hc : l1.length ≤ 20000)
    (heq : ∀ k (hk : k < l1.length) (hk2 : k < l2.length), (l1[k]).like true (l2[k])) :
    Calls Tryd.prog 14 #[v1, v2, .bool true] w fun e w' => e = .returned (.bool true) ∧ ∃ n, w' = w.drewN n := by
  obtain ⟨a1, cap1, rfl, hc1⟩ := h1
  obtain ⟨a2, cap2, rfl, hc2⟩ := h2
  have HC1 := Lib.hid hc1
  have HC2 := Lib.hid hc2
  have HEQ := Lib.hid heq
  have HL := Lib.hid hlen
  rw [← hlen]
  clear hc1 hc2 heq hlen
  go_enter Tryd.func14, Tryd.ntmps14
  go_wp2_with fail
  go_loopw [7] (fun i wr => ∃ (k n : Nat), k ≤ l1.length ∧ i = .int .i64 k ∧ Hid (wr = w.drewN n)) (fun i _ => l1.length - (intOf i).toNat)
  case atStart => exact ⟨0, 0, Nat.zero_le _, rfl, rfl⟩
  case round =>
    obtain ⟨k, n, hk, rfl, hw⟩ := hrel
    obtain rfl := hw.out
    clear hw
    by_cases hlt : k < l1.length
    · obtain ⟨g1, rfl, _, hcell1⟩ := HC1.out (by intro e; rw [e] at hlt; simp at hlt)
      obtain ⟨g2, rfl, _, hcell2⟩ := HC2.out (by intro e; have := HL.out; rw [e] at this; simp at this; rw [this] at hlt; simp at hlt)
      have hlt2 : k < l2.length := by have := HL.out; omega
      obtain ⟨p0, p1, p2, p3⟩ := cellsOf_get l1 k hlt
      obtain ⟨q0, q1, q2, q3⟩ := cellsOf_get l2 k hlt2
      obtain ⟨e1, e2, e3, e4⟩ := HEQ.out k hlt hlt2
      rw [← e1] at q0
      rw [← e2] at q2
      rw [← e3] at q3
      rw [← e4 rfl] at q1
      generalize l1[k].kind = kd at *
      generalize l1[k].val = vl at *
      generalize l1[k].pos = ps at *
      obtain ⟨tx, htx⟩ : ∃ tx : ByteArray, ⟨l1[k].text.toArray⟩ = tx := ⟨_, rfl⟩
      rw [htx] at p2 q2
      have c0 : w.cell? ⟨g1, k * 4, none⟩ = some (.int .i64 kd) := by rw [hcell1 _ (by omega)]; exact p0
      have c2 : w.cell? ⟨g1, k * 4 + 2, none⟩ = some (.string tx) := by rw [hcell1 _ (by omega)]; exact p2
      have c3 : w.cell? ⟨g1, k * 4 + 3, none⟩ = some (.int .i64 vl) := by rw [hcell1 _ (by omega)]; exact p3
      have d0 : w.cell? ⟨g2, k * 4, none⟩ = some (.int .i64 kd) := by rw [hcell2 _ (by omega)]; exact q0
      have d2 : w.cell? ⟨g2, k * 4 + 2, none⟩ = some (.string tx) := by rw [hcell2 _ (by omega)]; exact q2
      have d3 : w.cell? ⟨g2, k * 4 + 3, none⟩ = some (.int .i64 vl) := by rw [hcell2 _ (by omega)]; exact q3
      have c1 : w.cell? ⟨g1, k * 4 + 1, none⟩ = some (.int .i64 ps) := by rw [hcell1 _ (by omega)]; exact p1
      have d1 : w.cell? ⟨g2, k * 4 + 1, none⟩ = some (.int .i64 ps) := by rw [hcell2 _ (by omega)]; exact q1
      clear hcell1 hcell2 p0 p1 p2 p3 q0 q1 q2 q3 e1 e2 e3 e4 htx
      have hlt' : (k : Int) < l1.length := by omega
      have hlt2' : (k : Int) < l2.length := by omega
      go_wp2_with fail
      go_quiet (fail)
      go_wp2_with fail
      exact ⟨⟨k + 1, _, by omega, by go_num, rfl⟩, by simp [intOf]; omega⟩
    · go_wp2_with fail
      go_ret
      exact ⟨rfl, n, rfl⟩
end Go.Proofs.YthbhlmkgbinegaaDoor
