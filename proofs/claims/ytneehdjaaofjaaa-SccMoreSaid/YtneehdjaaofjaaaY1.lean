/- Lists of numbers in plain words: what the document's sets are. -/
import Derived.Test.YtneehdjaaofjaaaChecked
import Derived.WalkKit
import Derived.WalkSpells
import Derived.WalkLawsBesides
import Derived.Outline
import Derived.RegionTactic
import Derived.BigRegion
import Derived.WalkSmall
import Derived.Lib.Hide
import Derived.OwnWalk
import Derived.Laws.OwnMore
import Derived.Below
import Derived.OneCell
import Derived.Deep.QuietTactic
import Derived.BigQuiet
import Derived.LoopTactic
namespace Go.Proofs.Ytneehdjaaofjaaa
open Go.RowKit
/-- A number ahead of the first greater one. -/
def insI (x : Int) : List Int → List Int
  | [] => [x]
  | y :: r => if x < y then x :: y :: r else y :: insI x r
def grt (x : Int) (l : List Int) : Bool := l.any fun y => decide (x < y)
theorem grt_snoc (x : Int) (l : List Int) (y : Int) : grt x (l ++ [y]) = (grt x l || decide (x < y)) := by simp [grt]
theorem insI_none {x : Int} : ∀ {l : List Int}, grt x l = false → insI x l = l ++ [x]
  | [], _ => rfl
  | y :: r, h => by
    have h1 : ¬ x < y ∧ grt x r = false := by simpa [grt] using h
    rw [insI, if_neg h1.1, insI_none h1.2]
    rfl
theorem insI_some {x : Int} : ∀ {l : List Int} (y : Int), grt x l = true → insI x (l ++ [y]) = insI x l ++ [y]
  | [], _, h => by simp [grt] at h
  | z :: r, y, h => by
    by_cases hz : x < z
    · simp [insI, hz]
    · have h1 : grt x r = true := by
        simp only [grt, List.any_cons, Bool.or_eq_true, decide_eq_true_eq] at h ⊢
        exact h.resolve_left hz
      rw [List.cons_append, insI, if_neg hz, insI, if_neg hz, insI_some y h1]
      rfl
theorem insI_first {x : Int} : ∀ {l : List Int} {y : Int}, grt x l = false → x < y → insI x (l ++ [y]) = l ++ [x, y]
  | [], y, _, hy => by simp [insI, hy]
  | z :: r, y, h, hy => by
    have h1 : ¬ x < z ∧ grt x r = false := by simpa [grt] using h
    rw [List.cons_append, insI, if_neg h1.1, insI_first h1.2 hy]
    rfl
/-- What the loop has made of the first numbers. -/
def outI (x : Int) (l : List Int) : List Int := if grt x l = true then insI x l else l
theorem outI_len_le (x : Int) (l : List Int) : (outI x l).length ≤ l.length + 1 := by
  unfold outI
  split
  · induction l with
    | nil => simp [insI]
    | cons y r ih =>
      rw [insI]
      split
      · simp
      · rename_i hy hxy
        have h1 : grt x r = true := by
          simp only [grt, List.any_cons, Bool.or_eq_true, decide_eq_true_eq] at hy ⊢
          exact hy.resolve_left hxy
        simpa using ih h1
  · omega
theorem outI_end (x : Int) (l : List Int) : (if grt x l = true then outI x l else outI x l ++ [x]) = insI x l := by
  unfold outI
  rcases h : grt x l
  · simp [insI_none h]
  · simp
def addI13 (l : List Int) (n : Int) : List Int × Bool := if 0 ≤ n ∧ n ≤ 1000000 ∧ n ∉ l then (insI n l, true) else (l, false)
theorem insI_mem {x y : Int} : ∀ {l : List Int}, y ∈ insI x l ↔ y = x ∨ y ∈ l
  | [] => by simp [insI]
  | z :: r => by
    rw [insI]
    split
    · simp
    · rw [List.mem_cons, insI_mem, List.mem_cons]
      constructor
      · rintro (h | h | h)
        · exact .inr (.inl h)
        · exact .inl h
        · exact .inr (.inr h)
      · rintro (h | h | h)
        · exact .inr (.inl h)
        · exact .inl h
        · exact .inr (.inr h)
theorem insI_len (x : Int) : ∀ l : List Int, (insI x l).length = l.length + 1
  | [] => rfl
  | y :: r => by
    rw [insI]
    split
    · rfl
    · rw [List.length_cons, insI_len x r, List.length_cons]
/-- The list rises. -/
def RiseI (l : List Int) : Prop := l.Pairwise (· < ·)
theorem insI_rise {x : Int} : ∀ {l : List Int}, RiseI l → x ∉ l → RiseI (insI x l)
  | [], _, _ => by simp [insI, RiseI]
  | y :: r, h, hx => by
    have hy : x ≠ y := fun e => hx (by simp [e])
    have h' := List.pairwise_cons.1 h
    rw [insI]
    split
    · rename_i hxy
      refine List.pairwise_cons.2 ⟨fun z hz => ?_, h⟩
      rcases List.mem_cons.1 hz with rfl | hz
      · exact hxy
      · have := h'.1 z hz
        omega
    · refine List.pairwise_cons.2 ⟨fun z hz => ?_, insI_rise h'.2 (fun h => hx (by simp [h]))⟩
      rcases insI_mem.1 hz with rfl | hz
      · omega
      · exact h'.1 z hz

end Go.Proofs.Ytneehdjaaofjaaa
