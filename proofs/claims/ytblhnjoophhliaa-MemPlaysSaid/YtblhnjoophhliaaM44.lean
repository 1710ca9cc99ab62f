/- The document's memory: Load, whole. -/
import Derived.Test.YtblhnjoophhliaaM43
import Derived.Test.YtblhnjoophhliaaM18
namespace Go.Proofs.Ytblhnjoophhliaa
open Go.RowKit
def loadBs (bs : List Blk) (p : Val) (w : Int) : Val × Int :=
  if widB w = false then (val0, 1) else
  match cutB bs p w with
  | none => (val0, 9)
  | some k => match bs[k]? with
    | none => (val0, 9)
    | some x => match x.bytes[p.n.toNat]? with
      | none => (val0, 9)
      | some b => decR b (segL x.bytes p.n.toNat w.toNat)
theorem load_B (L : List (Nat × Blk)) (p : Val) (w : Int) : loadP L p w = loadBs (L.map (·.2)) p w := by
  unfold loadP loadBs
  rw [← cut_B]
  by_cases h : widB w = false
  · rw [if_pos h, if_pos h]
  · rw [if_neg h, if_neg h]
    rcases hc : cutI L p w with _ | k
    · rfl
    · simp only [List.getElem?_map]
      rcases L[k]? with _ | x <;> rfl
theorem rLoad_any {S : Nat → Prop} {ad : Option Addr} {rs : List RB} (cap : Nat) (p : Val) (n : Int) (w : World) (h : RefAt S w ad rs) (hok : ∀ x ∈ rs, OkM x.bytes) :
    Calls Try.prog 18 #[.slice ad rs.length cap, valV p, .int .i64 n] w fun e w' => e = .returned (.tuple #[valV (loadBs (rsB rs) p n).1, .int .i64 (loadBs (rsB rs) p n).2]) ∧ w.grownBy w' none := by
  unfold loadBs
  by_cases hw : widB n = false
  · rw [if_pos hw]
    have ha : accI (rsB rs) p n = 1 := by unfold accI; rw [if_pos hw]
    have := rLoad_acc cap p n w h (by rw [ha]; decide)
    rw [ha] at this
    exact this
  · rw [if_neg hw]
    have hw : widB n = true := by simpa using hw
    rcases hc : cutB (rsB rs) p n with _ | k
    · have ha : accI (rsB rs) p n = 9 := by unfold accI; rw [if_neg (by rw [hw]; simp), if_neg (by rw [hc]; simp)]
      have := rLoad_acc cap p n w h (by rw [ha]; decide)
      rw [ha] at this
      exact this
    · obtain ⟨c, rfl, h1, h8⟩ := widB_true hw
      obtain ⟨x, hx, hpb, o, hpo, hol⟩ := cutB_in hc
      have hb := List.getElem?_eq_getElem (show o < x.bytes.length by omega)
      generalize x.bytes[o] = b at hb
      have ho : p.n.toNat = o := by rw [hpo]; rfl
      simp only [rsB_at, hx, Option.map_some, rbB]
      rw [ho]
      simp only [hb]
      rw [Int.toNat_natCast]
      have hlen : (segL x.bytes o c).length = c := seg_len hol
      have hb0 : (segL x.bytes o c)[0]? = some b := by rw [seg_at h1]; exact hb
      have hc' : c = 1 ∨ c = 4 ∨ c = 8 := by have := of_decide_eq_true (show decide _ = true from hw); omega
      have hxm := List.mem_of_getElem? hx
      have hby := (h.each x hxm).2.2.2.1
      by_cases hn : cntN (segL x.bytes o c) = c
      · have ht := List.getElem?_eq_getElem (show o + (c - 1) < x.bytes.length by omega)
        generalize x.bytes[o + (c - 1)] = t at ht
        rw [dec_num (t := t) (seg_byts hby o c) hb0 (by rw [hlen, seg_at (by omega)]; exact ht) (by rw [hlen]; exact hc') (by rw [hlen]; exact hn)]
        exact rLoad_num cap p c k o w h hw h1 hc hx hpo ht hn
      · by_cases hm : 0 < cntN (segL x.bytes o c) ∨ b.k ≠ 2
        · rw [dec_mix hb0 (by rw [hlen]; exact hn) hm]
          exact rLoad_mix cap p c k o w h hw h1 hc hx hpo hb hn hm
        · have h0 : cntN (segL x.bytes o c) = 0 := by omega
          have h2 : b.k = 2 := by rcases Decidable.em (b.k = 2) with h | h; exact h; exact absurd (.inr h) hm
          by_cases hc1 : c = 1
          · have e : segL x.bytes o c = [b] := by
              rw [hc1]
              exact seg_one hb
            rw [e, dec_single h2]
            exact rLoad_single cap p c k o w h hw h1 hc hx hpo hb h0 h2 hc1
          · exact rLoad_parts cap p c k o w h hw h1 hc hx hpo hb h0 h2 hc1 (hok x hxm)

end Go.Proofs.Ytblhnjoophhliaa
