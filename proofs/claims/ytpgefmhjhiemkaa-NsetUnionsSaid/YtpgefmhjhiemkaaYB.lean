/- How a set lies in memory: a block that holds a slice of its runs, a row of its own. -/
import Derived.Test.YtpgefmhjhiemkaaJ2
namespace Go.Proofs.Ytpgefmhjhiemkaa
open Go.RowKit
def SetBody (W : World) (F : Nat → Prop) (m : Nat) (E : List Int) : Prop :=
  ∃ v S, SpOk S ∧ els S = E ∧ W.heap[m]? = some (.cells #[v] 44 (0, 0)) ∧ OwS 0 W v S ∧ ∀ g, v.ownBlock = some g → F g ∧ g ≠ m
theorem SetBody.keep {W W' : World} {F : Nat → Prop} {m : Nat} {E : List Int} (h : SetBody W F m E) (k : ∀ i, F i → W'.heap[i]? = W.heap[i]?) (hm : F m) : SetBody W' F m E := by
  obtain ⟨v, S, h1, h2, h3, h4, h5⟩ := h
  exact ⟨v, S, h1, h2, (k m hm).trans h3, h4.at_ fun g hg => k g (h5 g hg).1, h5⟩
theorem SetBody.mono {W : World} {F G : Nat → Prop} {m : Nat} {E : List Int} (h : SetBody W F m E) (k : ∀ i, F i → G i) : SetBody W G m E := by
  obtain ⟨v, S, h1, h2, h3, h4, h5⟩ := h
  exact ⟨v, S, h1, h2, h3, h4, fun g hg => ⟨k g (h5 g hg).1, (h5 g hg).2⟩⟩

end Go.Proofs.Ytpgefmhjhiemkaa
