/- The document's memory: Store, whole. -/
import Derived.Test.YtblhnjoophhliaaM36
import Derived.Test.YtblhnjoophhliaaMP1
namespace Go.Proofs.Ytblhnjoophhliaa
open Go.RowKit
def storeBs (bs : List Blk) (p : Val) (w : Int) (v : Val) : List Blk × Int :=
  if widB w = false then (bs, 1) else
  match cutB bs p w with
  | none => (bs, 9)
  | some k => match encP w.toNat v with
    | none => (bs, 9)
    | some l => (layBs bs k p.n.toNat l, 0)
theorem store_B (L : List (Nat × Blk)) (p : Val) (w : Int) (v : Val) : ((storeP L p w v).1.map (·.2), (storeP L p w v).2) = storeBs (L.map (·.2)) p w v := by
  unfold storeP storeBs
  rw [← cut_B]
  by_cases h : widB w = false
  · rw [if_pos h, if_pos h]
  · rw [if_neg h, if_neg h]
    rcases hc : cutI L p w with _ | k
    · rfl
    · obtain ⟨x, hx⟩ := cut_in0 hc
      simp only [hx]
      rcases encP w.toNat v with _ | l
      · rfl
      · simp only
        rw [lay_B hx]
theorem acc_zero {bs : List Blk} {p : Val} {w : Int} {k : Nat} (hw : widB w = true) (hc : cutB bs p w = some k) : accI bs p w = 0 := by
  unfold accI
  rw [if_neg (by rw [hw]; simp), if_pos (by rw [hc]; rfl)]
theorem rStore_any {S : Nat → Prop} {ad : Option Addr} {rs : List RB} (cap : Nat) (p v : Val) (n : Int) (w : World) (h : RefAt S w ad rs) (hv : welB v = true) :
    Calls Try.prog 20 #[.slice ad rs.length cap, valV p, .int .i64 n, valV v] w fun e w' => ∃ u, e = .returned (.tuple #[u, .int .i64 (storeBs (rsB rs) p n v).2]) ∧ RefP S w w' u (storeBs (rsB rs) p n v).1 ∧ w.grownBy w' none := by
  have hwl := of_decide_eq_true (show decide _ = true from hv)
  unfold storeBs
  by_cases hw : widB n = false
  · rw [if_pos hw]
    have ha : accI (rsB rs) p n = 1 := by unfold accI; rw [if_pos hw]
    have := rStore_acc cap p v n w h (by rw [ha]; decide)
    rw [ha] at this
    exact this.mono fun e w' hh => ⟨_, hh.1, RefP.same h hh.2, hh.2⟩
  · rw [if_neg hw]
    have hw : widB n = true := by simpa using hw
    rcases hc : cutB (rsB rs) p n with _ | k
    · have ha : accI (rsB rs) p n = 9 := by unfold accI; rw [if_neg (by rw [hw]; simp), if_neg (by rw [hc]; simp)]
      have := rStore_acc cap p v n w h (by rw [ha]; decide)
      rw [ha] at this
      exact this.mono fun e w' hh => ⟨_, hh.1, RefP.same h hh.2, hh.2⟩
    · have ha := acc_zero hw hc
      obtain ⟨m, rfl, h1, h8⟩ := widB_true hw
      rw [Int.toNat_natCast]
      obtain ⟨vn, vb, vf⟩ := v
      dsimp only at hwl
      by_cases hn : numB ⟨vn, vb, vf⟩ = true
      · have he : encP m ⟨vn, vb, vf⟩ = some (numL vn m) := by unfold encP; rw [if_pos hn]
        obtain ⟨rfl, rfl⟩ : vb = 0 ∧ vf = 0 := of_decide_eq_true (show decide _ = true from hn)
        simp only [he]
        exact rStore_num cap p vn m k w h ha h8 hc
      · have hn' := of_decide_eq_false (show decide _ = false from (by simpa using hn : numB ⟨vn, vb, vf⟩ = false))
        dsimp only at hn'
        by_cases hp : ptrB ⟨vn, vb, vf⟩ = true
        · obtain ⟨hb, rfl⟩ : 0 < vb ∧ vf = 0 := of_decide_eq_true (show decide _ = true from hp)
          by_cases hm : m = 8
          · subst hm
            have he : encP 8 ⟨vn, vb, 0⟩ = some (ptrL ⟨vn, vb, 0⟩ 8) := by unfold encP; rw [if_neg hn, if_pos ⟨hp, rfl⟩]
            simp only [he]
            exact rStore_ptr cap p vn vb hb k w h ha hc
          · have he : encP m ⟨vn, vb, 0⟩ = none := by
              unfold encP
              rw [if_neg hn, if_neg (fun h => hm h.2), if_neg]
              rintro ⟨h, _⟩
              have := of_decide_eq_true (show decide _ = true from h)
              dsimp only at this
              omega
            simp only [he]
            exact (rStore_bad cap p ⟨vn, vb, 0⟩ m w h ha (.inl ⟨hp, by omega⟩)).mono fun e w' hh => ⟨_, hh.1, RefP.same h hh.2, hh.2⟩
        · have hp' := of_decide_eq_false (show decide _ = false from (by simpa using hp : ptrB ⟨vn, vb, vf⟩ = false))
          dsimp only at hp'
          by_cases hm : m = 1
          · subst hm
            have he : encP 1 ⟨vn, vb, vf⟩ = some [⟨2, 0, ⟨vn, vb, vf⟩⟩] := by
              unfold encP
              rw [if_neg hn, if_neg (fun h => hp h.1), if_pos ⟨decide_eq_true (by dsimp only; omega), rfl⟩]
            simp only [he]
            exact rStore_part cap p vn vb vf (by omega) (by omega) k w h ha hc
          · have he : encP m ⟨vn, vb, vf⟩ = none := by
              unfold encP
              rw [if_neg hn, if_neg (fun h => hp h.1), if_neg (fun h => hm h.2)]
            simp only [he]
            exact (rStore_bad cap p ⟨vn, vb, vf⟩ m w h ha (.inr ⟨by simpa using hp, by dsimp only; omega, by omega⟩)).mono fun e w' hh => ⟨_, hh.1, RefP.same h hh.2, hh.2⟩

end Go.Proofs.Ytblhnjoophhliaa
