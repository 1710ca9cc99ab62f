/- LexKinds: the walk. -/
import Derived.Test.YthbhlmkgbinegaaDoorP4
import Derived.Test.YthbhlmkgbinegaaDoorR1
namespace Go.Proofs.YthbhlmkgbinegaaDoor
open Go.RowKit
theorem quiet_add_left {P : Program} {f : FuncId} {args : Array Value} {w : World} {a n : Nat} {v : Value}
    (h : Calls P f args (w.drewN (a + n)) fun e w' => e = .returned v ∧ w.drewN (a + n) = w') :
    Calls P f args (w.drewN (a + n)) fun e w'' => e = .returned v ∧ ∃ m, w'' = w.drewN (a + m) :=
  h.mono fun _ _ ⟨he, hm⟩ => ⟨he, n, hm.symm⟩
theorem nm_is (b : Bool) (s : ByteArray) (w : World) (hs : s.size ≤ maxLen) (hv : Vars w) (h : isName s.data.toList = b) : Calls Tryd.prog 15 #[.string s] w fun e w' => e = .returned (.bool b) ∧ w = w' := by
  subst h; exact name_any s w hs hv
theorem Vars.drewN {w : World} (h : Vars w) (n : Nat) : Vars (w.drewN n) := h.below (below_drewN (Below.refl _ _) n) h.size
set_option maxRecDepth 100000 in
set_option maxHeartbeats 4000000 in
theorem kinds_bad (s : ByteArray) (w : World) (hv : Vars w) (p : Nat) (er : Int) (h : tokensR s.data.toList = .bad p er) :
    Calls Tryd.prog 10 #[.string s] w fun e w' => e = .returned (.bool true) ∧ Below w.heap.size w w' := by
  have HV := Lib.hid hv
  have HT := Lib.hid h
  clear hv h
  go_enter Tryd.func10, Tryd.ntmps10
  go_wp2_with fail
  refine (shown_any _ HV.out).mono ?_
  rintro e w1 ⟨rfl, hb1⟩
  have HB1 := Lib.hid hb1
  have HV1 := Lib.hid (HV.out.below hb1 HV.out.size)
  clear hb1
  go_wp2_with fail
  refine (tokens_bad _ p er _ HV1.out HT.out).mono ?_
  rintro e w2 ⟨rfl, hb2⟩
  have HB2 := Lib.hid hb2
  clear hb2
  go_wp2_with fail
  go_loop [7] (fun i => i = .int .i64 0) (fun _ => 0)
  case atStart => rfl
  case round =>
    subst hrel
    go_wp2_with fail
    go_ret
    exact ⟨rfl, HB1.out.trans (HB2.out.mono HB1.out.size)⟩
set_option maxRecDepth 100000 in
set_option maxHeartbeats 4000000 in
theorem kinds_ok (s : ByteArray) (w : World) (hv : Vars w) (ts : List T4) (h : tokensR s.data.toList = .ok ts) :
    Calls Tryd.prog 10 #[.string s] w fun e w' => e = .returned (.bool true) ∧ Below w.heap.size w w' := by
  obtain ⟨hsz, hlex⟩ := tokens_ok_facts h
  have hR := rises_of s.data.toList ts 0 (by omega) (by simpa using hlex)
  have hcount : ts.length ≤ 20000 := by have := rises_count _ ts 0 (by omega) hR; omega
  have HA := Lib.hid (alone_all s.data.toList hsz ts 0 (by simpa using hlex))
  have HV := Lib.hid hv
  have HT := Lib.hid h
  clear hv h hlex hsz hR
  go_enter Tryd.func10, Tryd.ntmps10
  go_wp2_with fail
  refine (shown_any _ HV.out).mono ?_
  rintro e w1 ⟨rfl, hb1⟩
  have HB1 := Lib.hid hb1
  have HV1 := Lib.hid (HV.out.below hb1 HV.out.size)
  clear hb1
  go_wp2_with fail
  refine (tokens_row _ ts _ HV1.out HT.out).mono ?_
  rintro e w2 ⟨v, rfl, hrow, hb2⟩
  have HB2 := Lib.hid (HB1.out.trans (hb2.mono HB1.out.size))
  have HV2 := Lib.hid (HV1.out.below hb2 HV1.out.size)
  have HRow := Lib.hid hrow
  clear hb2 hrow
  obtain ⟨a, cap, rfl, hcells⟩ := HRow.out
  have HC := Lib.hid hcells
  clear hcells
  go_wp2_with fail
  go_loopw [7] (fun i wr => ∃ (k : Nat), k ≤ ts.length ∧ i = .int .i64 k ∧ Hid (Below w2.heap.size w2 wr))
    (fun i _ => ts.length - (intOf i).toNat)
  case atStart => exact ⟨0, Nat.zero_le _, rfl, Below.refl _ _⟩
  case round =>
    obtain ⟨k, hk, rfl, hB⟩ := hrel
    by_cases hlt : k < ts.length
    · obtain ⟨g, rfl, hg, hcell⟩ := HC.out (by intro e; rw [e] at hlt; simp at hlt)
      obtain ⟨q0, _, q2, q3⟩ := cellsOf_get ts k hlt
      obtain ⟨A1, A2, A3, A4⟩ := HA.out ts[k] (List.getElem_mem hlt)
      generalize ts[k] = t at *
      obtain ⟨kd, pos, tl, vl⟩ := t
      simp only at q0 q2 q3 A1 A2 A3 A4
      obtain ⟨tx, htx⟩ : ∃ tx : ByteArray, tx = ⟨tl.toArray⟩ := ⟨_, rfl⟩
      have htl : tx.data.toList = tl := by rw [htx]
      have hts : tx.size ≤ maxLen := by
        have : tx.data.toList.length = tx.size := by simp
        unfold maxLen; rw [htl] at this; omega
      rw [← htx] at q2
      have hT : tokensR tx.data.toList = .ok [⟨kd, 0, tx.data.toList, vl⟩] := by
        rw [htl]; unfold tokensR; rw [if_neg (by omega)]; exact A1
      rw [← htl] at A2 A3
      have g0 : wr.cell? ⟨g, k * 4, none⟩ = some (.int .i64 kd) := by
        rw [hB.out.cell (p := ⟨g, k * 4, none⟩) hg, hcell _ (by omega)]; exact q0
      have g2 : wr.cell? ⟨g, k * 4 + 2, none⟩ = some (.string tx) := by
        rw [hB.out.cell (p := ⟨g, k * 4 + 2, none⟩) hg, hcell _ (by omega)]; exact q2
      have HT2 := Lib.hid hT
      have HA2 := Lib.hid A2
      have HA3 := Lib.hid A3
      have HQ0 := Lib.hid q0
      have HQ2 := Lib.hid q2
      have HQ3 := Lib.hid q3
      have HCell := Lib.hid hcell
      have HVr := Lib.hid (HV2.out.below hB.out HV2.out.size)
      clear hcell q0 q2 q3 htx hT A1 A2 A3 A4 htl
      have hlt' : (k : Int) < ts.length := by omega
      go_wp2_with fail
      refine (tokens_ok _ _ _ HVr.out HT2.out (by simp)).mono ?_
      rintro e w3 ⟨g', cap', rfl, hg1, hg2, hb3, hc3⟩
      have hB3 := hB.out.trans (hb3.mono hB.out.size)
      have HB3 := Lib.hid hB3
      have d0 : w3.cell? ⟨g, k * 4, none⟩ = some (.int .i64 kd) := by
        rw [hB3.cell (p := ⟨g, k * 4, none⟩) hg, HCell.out _ (by omega)]; exact HQ0.out
      have d2 : w3.cell? ⟨g, k * 4 + 2, none⟩ = some (.string tx) := by
        rw [hB3.cell (p := ⟨g, k * 4 + 2, none⟩) hg, HCell.out _ (by omega)]; exact HQ2.out
      have d3 : w3.cell? ⟨g, k * 4 + 3, none⟩ = some (.int .i64 vl) := by
        rw [hB3.cell (p := ⟨g, k * 4 + 3, none⟩) hg, HCell.out _ (by omega)]; exact HQ3.out
      have e0 : w3.cell? ⟨g', 0, none⟩ = some (.int .i64 kd) := by rcases hc3 0 with h | h; exact h; simp at h
      have e1 : w3.cell? ⟨g', 1, none⟩ = some (.int .i64 0) := by rcases hc3 1 with h | h; exact h; simp at h
      have e3 : w3.cell? ⟨g', 3, none⟩ = some (.int .i64 vl) := by rcases hc3 3 with h | h; exact h; simp at h
      have HV3 := Lib.hid (HV2.out.below HB3.out HV2.out.size)
      clear hB3 hb3 hc3 hg1 hg2 g0 g2
      go_wp2_with fail
      go_quiet (fail)
      go_wp2_with fail
      go_quiet ((first | (go_at_call 15; exact quiet_add_left (nm_is (kd == 1) _ _ hts (HV3.out.drewN _) HA2.out.symm)) | (go_at_call 17; exact quiet_add_left (kw_is (kd == 2) _ _ (HV3.out.drewN _) HA3.out.symm))))
      go_wp2_with fail
      exact ⟨⟨k + 1, by omega, by go_num, below_drewN HB3.out _⟩, by simp [intOf]; omega⟩
    · go_wp2_with fail
      go_ret
      exact ⟨rfl, HB2.out.trans (hB.out.mono HB2.out.size)⟩
theorem kinds_walk (s : ByteArray) (w : World) (hv : Vars w) : Calls Tryd.prog 10 #[.string s] w fun e w' => e = .returned (.bool true) ∧ Below w.heap.size w w' := by
  cases h : tokensR s.data.toList with
  | ok ts => exact kinds_ok s w hv ts h
  | bad p e => exact kinds_bad s w hv p e h
end Go.Proofs.YthbhlmkgbinegaaDoor
