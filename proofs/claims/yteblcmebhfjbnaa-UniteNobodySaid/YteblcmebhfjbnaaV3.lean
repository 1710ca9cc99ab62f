/- Rows of structs in memory; pairs. -/
import Derived.Test.YteblcmebhfjbnaaV6
import Derived.Test.YteblcmebhfjbnaaZs
namespace Go.Proofs.Yteblcmebhfjbnaa
open Go.RowKit
def prC (p : Int × Int) : Array Value := #[.int .i64 p.1, .int .i64 p.2]
theorem pair_cells {w : World} {ad : Addr} {l : List (Int × Int)} {k : Nat} {p : Int × Int} (h : StrAt prC 2 w (some ad) l) (hk : l[k]? = some p) :
    w.cell? (ad.add (k * 2)) = some (.int .i64 p.1) ∧ w.cell? ⟨(ad.add (k * 2)).block, (ad.add (k * 2)).off + 1, none⟩ = some (.int .i64 p.2) := by
  rcases h with rfl | ⟨ad', e, hc⟩
  · simp at hk
  · injection e with e
    subst e
    exact ⟨hc k p hk 0 _ rfl, by rw [← add_pos _ _ _ (by omega)]; exact hc k p hk 1 _ rfl⟩

end Go.Proofs.Yteblcmebhfjbnaa
