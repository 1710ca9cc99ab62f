/- MemParts, in plain words. -/
import Derived.Test.YtblhnjoophhliaaM19
namespace Go.Proofs.Ytblhnjoophhliaa
open Go.RowKit
/-- The part with number i + 1 of a pointer. -/
def prt (v : Val) (i : Nat) : Byt := ⟨2, 0, ⟨v.n, v.b, (i : Int) + 1⟩⟩
theorem decR_prt (v : Val) (i : Nat) : decR (prt v i) [prt v i] = (⟨v.n, v.b, (i : Int) + 1⟩, 0) := rfl
theorem encP_prt (v : Val) (i : Nat) (hi : i < 8) : encP 1 ⟨v.n, v.b, (i : Int) + 1⟩ = some [prt v i] := by
  unfold encP
  rw [if_neg (by unfold numB; simp; omega), if_neg (by simp), if_pos ⟨decide_eq_true (by show 1 ≤ (i : Int) + 1 ∧ (i : Int) + 1 ≤ 8; omega), rfl⟩]
  rfl
def paB : Blk := newB 0 32 true
def bk (M : List Byt) : Blk := putY paB M
theorem pa0 (g : Nat) : allocP [] g 0 32 true = ([(g, paB)], 1, 0) := rfl
/-- A part is moved. -/
theorem load_prt {g : Nat} {M : List Byt} {v : Val} {q i : Nat} (h : M[q]? = some (prt v i)) : loadP [(g, bk M)] ⟨q, 1, 0⟩ 1 = (⟨v.n, v.b, (i : Int) + 1⟩, 0) := by
  have hq : q < M.length := (List.getElem?_eq_some_iff.1 h).1
  have e : loadP [(g, bk M)] ⟨q, 1, 0⟩ 1 = decR (prt v i) (segL M q 1) := load_one (b := bk M) (n := 1) rfl rfl (by show _ ≤ M.length; omega) h
  rw [e, seg_one h, decR_prt]
theorem splice_set {α : Type} (L : List α) {q : Nat} (hq : q < L.length) (x : α) : splice L q [x] = L.set q x := by
  have h := splice_snoc L q [] x (by simpa using hq)
  rw [splice_nil] at h
  simpa using h.symm
theorem store_prt {g : Nat} {M : List Byt} {v : Val} {q i : Nat} (hq : q < M.length) (hi : i < 8) : storeP [(g, bk M)] ⟨q, 1, 0⟩ 1 ⟨v.n, v.b, (i : Int) + 1⟩ = ([(g, bk (M.set q (prt v i)))], 0) := by
  have e : storeP [(g, bk M)] ⟨q, 1, 0⟩ 1 ⟨v.n, v.b, (i : Int) + 1⟩ = ([(g, putY (bk M) (splice M q [prt v i]))], 0) := store_one (b := bk M) (n := 1) rfl rfl (encP_prt v i hi) (by show _ ≤ M.length; omega)
  rw [e, splice_set M hq]
  rfl
/-- The pointer's parts lie from q on. -/
def PtrAt (M : List Byt) (q : Nat) (v : Val) : Prop := ∀ i, i < 8 → M[q + i]? = some (prt v i)
theorem segL_ptr {M : List Byt} {q : Nat} {v : Val} (h : PtrAt M q v) : segL M q 8 = ptrL v 8 := by
  apply List.ext_getElem?
  intro i
  by_cases hi : i < 8
  · rw [seg_at hi, h i hi, ptrL_at v hi]; rfl
  · rw [List.getElem?_eq_none (by unfold segL; rw [List.length_take]; omega), List.getElem?_eq_none (by rw [ptrL_len]; omega)]
theorem load_ptr {g : Nat} {M : List Byt} {v : Val} {q : Nat} (hv : 0 < v.b) (hf : v.f = 0) (h : PtrAt M q v) : loadP [(g, bk M)] ⟨q, 1, 0⟩ 8 = (v, 0) := by
  have h0 := h 0 (by omega)
  have h7 := (List.getElem?_eq_some_iff.1 (h 7 (by omega))).1
  have e : loadP [(g, bk M)] ⟨q, 1, 0⟩ 8 = decR (prt v 0) (segL M q 8) := load_one (b := bk M) (n := 8) rfl rfl (by show _ ≤ M.length; omega) h0
  obtain ⟨vn, vb, vf⟩ := v
  dsimp only at hv hf
  subst hf
  rw [e, segL_ptr h]
  have : decP (prt ⟨vn, vb, 0⟩ 0) (ptrL ⟨vn, vb, 0⟩ 8) = (⟨vn, vb, 0⟩, true) := by
    unfold decP
    rw [if_neg (by show ¬ (2 : Int) = 1; omega), if_neg (by rw [ptrL_len]; simp), if_pos ⟨rfl, ptrL_len _ _⟩]
    exact ptrP_ptrL vn vb hv
  unfold decR
  rw [this]
  rfl
/-- Eight parts in another order are no pointer. -/
theorem load_bad {g : Nat} {M : List Byt} {v : Val} {q i j : Nat} (hlen : q + 8 ≤ M.length) (hk : ∀ c, c < 8 → ∃ d, M[q + c]? = some (prt v d)) (hi : i < 8) (hij : M[q + i]? = some (prt v j)) (hne : i ≠ j) : loadP [(g, bk M)] ⟨q, 1, 0⟩ 8 = (val0, 9) := by
  obtain ⟨d, h0⟩ := hk 0 (by omega)
  have e : loadP [(g, bk M)] ⟨q, 1, 0⟩ 8 = decR (prt v d) (segL M q 8) := load_one (b := bk M) (n := 8) rfl rfl (by show _ ≤ M.length; omega) h0
  rw [e]
  have hs : (segL M q 8).length = 8 := seg_len hlen
  have : decP (prt v d) (segL M q 8) = (val0, false) := by
    unfold decP
    rw [if_neg (by show ¬ (2 : Int) = 1; omega), if_neg (by rw [hs]; simp), if_pos ⟨rfl, hs⟩]
    unfold ptrP
    rw [if_neg]
    rintro ⟨_, h⟩
    have h1 := (seg_at (M := M) (o := q) hi).trans hij
    rw [h, ptrL_at _ (by rw [hs]; exact hi)] at h1
    injection h1 with h1
    unfold prt ptr0 at h1
    simp at h1
    omega
  unfold decR
  rw [this]
  rfl
/-- The bytes that MemParts begins with, and after k turns. -/
structure PaM (v : Val) (t k : Nat) (M : List Byt) : Prop where
  len : M.length = 32
  src : PtrAt M 3 v
  dst : ∀ j, j < k → M[20 + (j + t) % 8]? = some (prt v ((j + t) % 8))
theorem PaM.first {v : Val} {t : Nat} : PaM v t 0 (splice paB.bytes 3 (ptrL v 8)) := by
  have hl : paB.bytes.length = 32 := newB_len _ _ _
  refine ⟨by rw [splice_len _ _ _ (by rw [ptrL_len]; omega), hl], fun i hi => ?_, fun j hj => by omega⟩
  rw [splice_in (by omega) (by omega) (by rw [ptrL_len]; omega), show 3 + i - 3 = i by omega, ptrL_at v hi]
  rfl
theorem PaM.next {v : Val} {t k : Nat} {M : List Byt} (h : PaM v t k M) : PaM v t (k + 1) (M.set (20 + (k + t) % 8) (prt v ((k + t) % 8))) := by
  have hl := h.len
  refine ⟨by rw [List.length_set]; exact hl, fun i hi => ?_, fun j hj => ?_⟩
  · rw [List.getElem?_set_ne (by omega)]; exact h.src i hi
  · by_cases e : 20 + (k + t) % 8 = 20 + (j + t) % 8
    · rw [e, List.getElem?_set_self (by omega), show (k + t) % 8 = (j + t) % 8 by omega]
    · rw [List.getElem?_set_ne e]; exact h.dst j (by omega)
theorem PaM.last {v : Val} {t : Nat} {M : List Byt} (h : PaM v t 8 M) : PtrAt M 20 v := fun i hi => by
  have e : ((i + 8 * t - t) % 8 + t) % 8 = i := by omega
  have := h.dst ((i + 8 * t - t) % 8) (by omega)
  rw [e] at this
  exact this
theorem store_ptr {g : Nat} {v : Val} (hv : 0 < v.b) (hf : v.f = 0) : storeP [(g, paB)] ⟨3, 1, 0⟩ 8 v = ([(g, bk (splice paB.bytes 3 (ptrL v 8)))], 0) := by
  have he : encP 8 v = some (ptrL v 8) := by
    unfold encP
    rw [if_neg (by unfold numB; simp; omega), if_pos ⟨decide_eq_true ⟨hv, hf⟩, rfl⟩]
  exact store_one (b := paB) (a := 3) (n := 8) rfl rfl he (by show _ ≤ (newB 0 32 true).bytes.length; rw [newB_len]; omega)
/-- What the exchange makes. -/
def swp (M : List Byt) (v : Val) (a b : Nat) : List Byt := (M.set (20 + a) (prt v b)).set (20 + b) (prt v a)
theorem swp_same {M : List Byt} {v : Val} {a : Nat} (h : PtrAt M 20 v) : PtrAt (swp M v a a) 20 v := fun i hi => by
  have h0 := (List.getElem?_eq_some_iff.1 (h i hi)).1
  unfold swp
  by_cases e : 20 + a = 20 + i
  · rw [e, List.getElem?_set_self (by rw [List.length_set]; exact h0), show a = i by omega]
  · rw [List.getElem?_set_ne e, List.getElem?_set_ne e]; exact h i hi
theorem swp_other {M : List Byt} {v : Val} {a b : Nat} (h : PtrAt M 20 v) (ha : a < 8) (hab : a ≠ b) : (∀ c, c < 8 → ∃ d, (swp M v a b)[20 + c]? = some (prt v d)) ∧ (swp M v a b)[20 + a]? = some (prt v b) := by
  have hl : ∀ c, c < 8 → 20 + c < M.length := fun c hc => (List.getElem?_eq_some_iff.1 (h c hc)).1
  unfold swp
  constructor
  · intro c hc
    by_cases e : 20 + b = 20 + c
    · rw [e, List.getElem?_set_self (by rw [List.length_set]; exact hl c hc)]; exact ⟨a, rfl⟩
    · rw [List.getElem?_set_ne e]
      by_cases e2 : 20 + a = 20 + c
      · rw [e2, List.getElem?_set_self (hl c hc)]; exact ⟨b, rfl⟩
      · rw [List.getElem?_set_ne e2]; exact ⟨c, h c hc⟩
  · rw [List.getElem?_set_ne (by omega), List.getElem?_set_self (hl a ha)]

end Go.Proofs.Ytblhnjoophhliaa
