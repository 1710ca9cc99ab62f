/- mem: two lists of bytes compared. -/
import Derived.Test.YtblhnjoophhliaaM13
namespace Go.Proofs.Ytblhnjoophhliaa
open Go.RowKit
/-- A list of bytes that may be read. -/
def RdAt (W : World) (ad : Option Addr) (l : List Byt) : Prop :=
  l = [] ∨ ∃ g, ad = some ⟨g, 0, none⟩ ∧ ∀ j b, l[j]? = some b → ∀ q, q < 5 → W.cell? ⟨g, j * 5 + q, none⟩ = (bytC b)[q]?
theorem BytesAt.rd {W : World} {g : Nat} {l : List Byt} (h : BytesAt W g l) : RdAt W (some ⟨g, 0, none⟩) l := .inr ⟨g, rfl, fun _ _ hj q hq => h.at_ hj q hq⟩
theorem RdAt.keep {W W' : World} {ad : Option Addr} {l : List Byt} (h : RdAt W ad l) (k : ∀ g, ad = some ⟨g, 0, none⟩ → g < W.heap.size → W'.heap[g]? = W.heap[g]?) : RdAt W' ad l := by
  rcases h with rfl | ⟨g, rfl, hc⟩
  · exact .inl rfl
  · by_cases h0 : l = []
    · exact .inl h0
    · right
      obtain ⟨b, r, rfl⟩ := List.exists_cons_of_ne_nil h0
      have h1 := hc 0 b rfl 0 (by omega)
      have hg : g < W.heap.size := by
        rcases Nat.lt_or_ge g W.heap.size with h | h
        · exact h
        · simp [World.cell?, Array.getElem?_eq_none h, bytC] at h1
      exact ⟨g, rfl, fun j b' hj q hq => (World.cell?_of_block (a := ⟨g, j * 5 + q, none⟩) (k g rfl hg)).trans (hc j b' hj q hq)⟩
theorem RdAt.gr {W W' : World} {ad : Option Addr} {l : List Byt} (h : RdAt W ad l) (g : W.grownBy W' none) : RdAt W' ad l := h.keep fun _ _ hlt => g.block _ hlt (by simp)
theorem RdAt.cells {W : World} {ad : Option Addr} {l : List Byt} (h : RdAt W ad l) {j : Nat} (hj : j < l.length) : ∃ g x, ad = some ⟨g, 0, none⟩ ∧ l[j]? = some x ∧ W.cell? ⟨g, j * 5, none⟩ = some (.int .i64 x.k) ∧ W.cell? ⟨g, j * 5 + 1, none⟩ = some (.int .u8 x.v) ∧
    W.cell? ⟨g, j * 5 + 2, none⟩ = some (.int .i64 x.p.n) ∧ W.cell? ⟨g, j * 5 + 3, none⟩ = some (.int .i64 x.p.b) ∧ W.cell? ⟨g, j * 5 + 4, none⟩ = some (.int .i64 x.p.f) := by
  rcases h with rfl | ⟨g, rfl, hc⟩
  · simp at hj
  · have hx := List.getElem?_eq_getElem hj
    have h := hc j _ hx
    exact ⟨g, _, rfl, hx, h 0 (by omega), h 1 (by omega), h 2 (by omega), h 3 (by omega), h 4 (by omega)⟩
set_option maxRecDepth 100000 in
set_option maxHeartbeats 4000000 in
theorem Same_any (ad bd : Option Addr) (ca cb : Nat) (l m : List Byt) (w : World) (hm : m.length ≤ 1000000) (ha : RdAt w ad l) (hb : RdAt w bd m) :
    Calls Try.prog 30 #[.slice ad l.length ca, .slice bd m.length cb] w fun e w' => e = .returned (.bool (decide (l = m))) ∧ w.grownBy w' none := by
  have HA := Lib.hid ha
  have HB := Lib.hid hb
  clear ha hb
  by_cases hlm : l.length = m.length
  · have e0 : ((l.length : Int) != m.length) = false := by simp; omega
    have HLM := Lib.hid hlm
    have hlm1 : l.length ≤ m.length := by omega
    clear hlm
    go_enter Try.func30, Try.ntmps30
    go_wp2_with fail
    clear e0
    go_loopw [5] (fun i wr => ∃ k : Nat, k ≤ l.length ∧ i = .int .i64 k ∧ l.take k = m.take k ∧ w.grownBy wr none) (fun i _ => l.length - (intOf i).toNat)
    case atStart => exact ⟨0, Nat.zero_le _, rfl, by simp, grownBy_refl _ _⟩
    case round =>
      obtain ⟨k, hk, rfl, hT, hg⟩ := hrel
      have HT := Lib.hid hT
      have HG := Lib.hid hg
      clear hT hg
      by_cases hlt : k < l.length
      · obtain ⟨g, x, rfl, hx, c0, c1, c2, c3, c4⟩ := (HA.out.gr HG.out).cells hlt
        obtain ⟨g', y, rfl, hy, d0, d1, d2, d3, d4⟩ := (HB.out.gr HG.out).cells (show k < m.length by omega)
        have HX := Lib.hid hx
        have HY := Lib.hid hy
        have hkm : k < m.length := by omega
        clear hx hy
        obtain ⟨xk, xv, ⟨xn, xb, xf⟩⟩ := x
        obtain ⟨yk, yv, ⟨yn, yb, yf⟩⟩ := y
        dsimp only at c0 c1 c2 c3 c4 d0 d1 d2 d3 d4
        obtain ⟨C, hC⟩ : ∃ C : Bool, C = !decide ((⟨xk, xv, ⟨xn, xb, xf⟩⟩ : Byt) = ⟨yk, yv, ⟨yn, yb, yf⟩⟩) := ⟨_, rfl⟩
        have hcmp := fun W => neqByte W xk xv xn xb xf yk yv yn yb yf
        rw [← hC] at hcmp
        have HC := Lib.hid hC
        clear hC
        go_wp2_with fail
        go_quiet (fail)
        clear hcmp c0 c1 c2 c3 c4 d0 d1 d2 d3 d4
        by_cases e : (⟨xk, xv, ⟨xn, xb, xf⟩⟩ : Byt) = ⟨yk, yv, ⟨yn, yb, yf⟩⟩
        · obtain rfl : C = false := by rw [HC.out, decide_eq_true e]; rfl
          have HE := Lib.hid e
          clear e
          go_wp2_with fail
          go_roundw
          case rel => exact ⟨k + 1, by omega, by go_num, by rw [List.take_add_one, List.take_add_one, HX.out, HY.out, HT.out, HE.out], gr_drewN HG.out _⟩
          case measure => simp [intOf]; omega
        · obtain rfl : C = true := by rw [HC.out, decide_eq_false e]; rfl
          have HE := Lib.hid (show decide (l = m) = false from decide_eq_false (fun h => e (by
            have h1 := HX.out
            rw [h, HY.out] at h1
            exact (Option.some.inj h1).symm)))
          clear e
          go_wp2_with fail
          go_ret
          exact ⟨by rw [HE.out]; rfl, gr_drewN HG.out _⟩
      · have HE := Lib.hid (show decide (l = m) = true from decide_eq_true (by
          have h := HT.out
          rwa [List.take_of_length_le (by omega), List.take_of_length_le (by have := HLM.out; omega)] at h))
        go_wp2_with fail
        go_ret
        exact ⟨by rw [HE.out]; rfl, HG.out⟩
  · have e0 : ((l.length : Int) != m.length) = true := by simp; omega
    have HE := Lib.hid (show decide (l = m) = false from decide_eq_false (fun e => hlm (by rw [e])))
    clear hlm
    go_enter Try.func30, Try.ntmps30
    go_wp2_with fail
    go_ret
    exact ⟨by rw [HE.out]; rfl, grownBy_refl _ _⟩

end Go.Proofs.Ytblhnjoophhliaa
