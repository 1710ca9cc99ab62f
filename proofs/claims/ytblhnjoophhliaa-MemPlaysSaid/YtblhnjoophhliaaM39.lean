/- The document's memory: Alloc, whole. -/
import Derived.Test.YtblhnjoophhliaaM38
namespace Go.Proofs.Ytblhnjoophhliaa
open Go.RowKit
def allocBs (bs : List Blk) (site size : Int) (z : Bool) : List Blk × Int × Int :=
  if allB size bs.length = true then (bs ++ [newB site size.toNat z], (bs.length : Int) + 1, 0) else (bs, 0, 5)
theorem alloc_B (L : List (Nat × Blk)) (g : Nat) (site size : Int) (z : Bool) : ((allocP L g site size z).1.map (·.2), (allocP L g site size z).2) = allocBs (L.map (·.2)) site size z := by
  unfold allocP allocBs
  rw [List.length_map]
  by_cases h : allB size L.length = true
  · rw [if_pos h, if_pos h, List.map_append]
    rfl
  · rw [if_neg h, if_neg h]
theorem rAlloc_any {S : Nat → Prop} {ad : Option Addr} {rs : List RB} (cap : Nat) (site size : Int) (z : Bool) (w : World) (h : RefAt S w ad rs) :
    Calls Try.prog 14 #[.slice ad rs.length cap, .int .i64 site, .int .i64 size, .bool z] w fun e w' => ∃ u, e = .returned (.tuple #[u, .int .i64 (allocBs (rsB rs) site size z).2.1, .int .i64 (allocBs (rsB rs) site size z).2.2]) ∧ RefP S w w' u (allocBs (rsB rs) site size z).1 ∧ w.grownBy w' none := by
  unfold allocBs
  rw [rsB_len]
  by_cases hs : allB size rs.length = true
  · rw [if_pos hs]
    have h1 := of_decide_eq_true (show decide _ = true from hs)
    obtain ⟨n, rfl⟩ : ∃ n : Nat, size = n := ⟨size.toNat, by omega⟩
    rw [Int.toNat_natCast]
    exact rAlloc_yes cap site n z w h (by omega) h1.2.2
  · rw [if_neg hs]
    have hs : allB size rs.length = false := by simpa using hs
    refine (rAlloc_no cap site size z w hs).mono ?_
    rintro e w' ⟨rfl, rfl⟩
    exact ⟨_, rfl, RefP.same h (grownBy_refl _ _), grownBy_refl _ _⟩

end Go.Proofs.Ytblhnjoophhliaa
