/- The document's graphs, walked: Leads. -/
import Derived.Test.YtneehdjaaofjaaaW1
namespace Go.Proofs.Ytneehdjaaofjaaa
open Go.RowKit
set_option maxRecDepth 100000 in
set_option maxHeartbeats 4000000 in
theorem Leads_any (N v : Nat) (A : Option Addr) (c0 : Nat) (E : List Edg) (w : World) (hE : EdsAt w A E) (hv : v < N) (hN : N ≤ 1000000) (hEl : E.length ≤ 1000000) :
    Calls Try.prog 21 #[.int .i64 N, .slice A E.length c0, .int .i64 v] w fun e w' => ∃ r M, e = .returned (.slice (some ⟨r, 0, none⟩) N N) ∧ M.length = N ∧ (∀ b, mk M b ↔ Lds (prs N E) v b) ∧ MkAt w.heap.size w' r N M ∧ w.grownBy w' none := by
  have HE := Lib.hid hE
  clear hE
  obtain ⟨i0, hi, hz0, hz1, hz2⟩ := info_parts infoBool
  go_enter Try.func21, Try.ntmps21
  go_wp2_with (at_make; go_must (refine wpList_make_full _ rfl (.tmp 8) (.tmp 8) 43 rfl w.heap.size 4 i0 _ 1 Try.underlying43 hi hz0 hz1 .i64 .i64 (N : Int) (N : Int) N rfl rfl rfl rfl (by rw [hz2]; omega) (by unfold maxLen; omega) (Nat.le_refl _) ?_; intro w1 ho1 hg1; have HM1 := Lib.hid (MkAt.first ho1); have HG1 := Lib.hid hg1; have hcl := HM1.out.cell (rep_at hv); have hfr := HM1.out.fr v; clear ho1 hg1 hi hz0 hz1 hz2))
  have HST := Lib.hid (HM1.out.set v true)
  have HG2 := Lib.hid (gr_own HG1.out HST.out.2 (fun k hk => by injection hk with hk; omega))
  clear hcl hfr
  refine (spread_any N A c0 E w.heap.size w.heap.size N (one N v) _ (HE.out.keep HG2.out) HST.out.1 (one_len N v) (fun he ad e => by subst e; have := eds_lt HE.out he; omega) hEl).mono ?_
  rintro e w3 ⟨M, rfl, hcl, hm, hg⟩
  have HC3 := Lib.hid hcl
  have HM3 := Lib.hid hm
  have HG3 := Lib.hid (gr_own HG2.out hg (fun k hk => by injection hk with hk; omega))
  clear hcl hm hg
  go_wp2_with fail
  go_ret
  exact ⟨_, M, rfl, HC3.out.1.trans (one_len N v), fun b => one_leads hv HC3.out b, HM3.out, HG3.out⟩

end Go.Proofs.Ytneehdjaaofjaaa
