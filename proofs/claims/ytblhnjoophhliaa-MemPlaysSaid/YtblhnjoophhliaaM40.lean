/- The document's memory: Copy, whole. -/
import Derived.Test.YtblhnjoophhliaaM32
namespace Go.Proofs.Ytblhnjoophhliaa
open Go.RowKit
theorem rCopy_any {S : Nat → Prop} {ad : Option Addr} {rs : List RB} (cap : Nat) (p q : Val) (n : Int) (w : World) (h : RefAt S w ad rs) :
    Calls Try.prog 22 #[.slice ad rs.length cap, valV p, valV q, .int .i64 n] w fun e w' => ∃ u, e = .returned (.tuple #[u, .int .i64 (copyBs (rsB rs) p q n).2]) ∧ RefP S w w' u (copyBs (rsB rs) p q n).1 ∧ w.grownBy w' none := by
  unfold copyBs
  by_cases hn : lenB n = false
  · rw [if_pos hn]
    exact (rCopy_no cap p q n w h (.inl hn)).mono fun e w' hh => ⟨_, hh.1, RefP.same h hh.2, hh.2⟩
  · rw [if_neg hn]
    have h3 : lenB n = true := by simpa using hn
    obtain ⟨m, rfl, hm4⟩ := lenB_true h3
    rcases hc : cutB (rsB rs) p m with _ | k
    · exact (rCopy_no cap p q m w h (.inr (.inl hc))).mono fun e w' hh => ⟨_, hh.1, RefP.same h hh.2, hh.2⟩
    · rcases hd : cutB (rsB rs) q m with _ | j
      · exact (rCopy_no cap p q m w h (.inr (.inr hd))).mono fun e w' hh => ⟨_, hh.1, RefP.same h hh.2, hh.2⟩
      · obtain ⟨y, hy, _⟩ := cutB_in hd
        simp only [rsB_at, hy, Option.map_some, rbB]
        rw [Int.toNat_natCast]
        exact rCopy_yes cap p q m k j w h hm4 hc hd hy

end Go.Proofs.Ytblhnjoophhliaa
