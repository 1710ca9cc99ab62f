/- LexBack: the walk. -/
import Derived.Test.YthbhlmkgbinegaaDoorP10
namespace Go.Proofs.YthbhlmkgbinegaaDoor
open Go.RowKit
set_option maxRecDepth 100000 in
set_option maxHeartbeats 4000000 in
theorem back_bad (s : ByteArray) (w : World) (hv : Vars w) (p : Nat) (er : Int) (h : tokensR s.data.toList = .bad p er) :
    Calls Tryd.prog 5 #[.string s] w fun e w' => e = .returned (.bool true) ∧ Below w.heap.size w w' := by
  have hne := (tokens_bad_facts h).2
  have hb : (er != 0) = true := by rw [bne_iff_ne]; exact hne
  have HV := Lib.hid hv
  have HT := Lib.hid h
  clear hv h hne
  go_enter Tryd.func5, Tryd.ntmps5
  go_wp2_with fail
  refine (shown_any _ HV.out).mono ?_
  rintro e w1 ⟨rfl, hb1⟩
  have HB1 := Lib.hid hb1
  have HV1 := Lib.hid (HV.out.below hb1 HV.out.size)
  clear hb1
  go_wp2_with fail
  refine (tokens_bad _ p er _ HV1.out HT.out).mono ?_
  rintro e w2 ⟨rfl, hb2⟩
  have HB2 := Lib.hid (HB1.out.trans (hb2.mono HB1.out.size))
  clear hb2
  go_wp2_with fail
  go_ret
  exact ⟨rfl, HB2.out⟩
set_option maxRecDepth 100000 in
set_option maxHeartbeats 4000000 in
theorem back_great (s : ByteArray) (w : World) (hv : Vars w) (ts : List T4) (h : tokensR s.data.toList = .ok ts) (hg : 20000 < (txt ts).length) :
    Calls Tryd.prog 5 #[.string s] w fun e w' => e = .returned (.bool true) ∧ Below w.heap.size w w' := by
  obtain ⟨hl1, hl2⟩ := txt_bound h
  have HV := Lib.hid hv
  have HT := Lib.hid h
  obtain ⟨t, ht⟩ : ∃ t : ByteArray, ⟨(txt ts).toArray⟩ = t := ⟨_, rfl⟩
  have hts : (txt ts).length = t.size := by rw [← ht]; rfl
  rw [hts] at hg
  have HT2 : Hid (tokensR t.data.toList = .bad 0 5) := by
    show _ = _
    unfold tokensR; rw [if_pos (by simpa using hg)]
  have HTT := Lib.hid ht
  clear hv h ht hts
  go_enter Tryd.func5, Tryd.ntmps5
  go_wp2_with fail
  refine (shown_any _ HV.out).mono ?_
  rintro e w1 ⟨rfl, hb1⟩
  have HB1 := Lib.hid hb1
  have HV1 := Lib.hid (HV.out.below hb1 HV.out.size)
  clear hb1
  go_wp2_with fail
  refine (tokens_row _ ts _ HV1.out HT.out).mono ?_
  rintro e w2 ⟨v, rfl, hrow, hb2⟩
  have HB2 := Lib.hid (HB1.out.trans (hb2.mono HB1.out.size))
  have HV2 := Lib.hid (HV1.out.below hb2 HV1.out.size)
  have HRow := Lib.hid hrow
  clear hb2 hrow
  go_wp2_with fail
  refine (text_any v ts _ HRow.out.toks (by omega) (by omega)).mono ?_
  rw [HTT.out]
  rintro e w3 ⟨rfl, hb3⟩
  have HB3 := Lib.hid (HB2.out.trans (hb3.mono HB2.out.size))
  have HV3 := Lib.hid (HV2.out.below hb3 HV2.out.size)
  clear hb3
  go_wp2_with fail
  refine (tokens_bad _ 0 5 _ HV3.out HT2.out).mono ?_
  rintro e w4 ⟨rfl, hb4⟩
  have HB4 := Lib.hid (HB3.out.trans (hb4.mono HB3.out.size))
  clear hb4
  go_wp2_with fail
  go_ret
  exact ⟨rfl, HB4.out⟩
set_option maxRecDepth 100000 in
set_option maxHeartbeats 4000000 in
theorem back_small (s : ByteArray) (w : World) (hv : Vars w) (ts : List T4) (h : tokensR s.data.toList = .ok ts) (hg : (txt ts).length ≤ 20000) :
    Calls Tryd.prog 5 #[.string s] w fun e w' => e = .returned (.bool true) ∧ Below w.heap.size w w' := by
  obtain ⟨hl1, hl2⟩ := txt_bound h
  have HV := Lib.hid hv
  have HT := Lib.hid h
  have hbk := back_ok h hg
  obtain ⟨t, ht⟩ : ∃ t : ByteArray, ⟨(txt ts).toArray⟩ = t := ⟨_, rfl⟩
  have hts : (txt ts).length = t.size := by rw [← ht]; rfl
  rw [hts] at hg
  have HT2 : Hid (tokensR t.data.toList = .ok (place 0 ts)) := by
    show _ = _
    rw [← ht]; exact hbk
  have HTT := Lib.hid ht
  clear hv h ht hts hbk
  go_enter Tryd.func5, Tryd.ntmps5
  go_wp2_with fail
  refine (shown_any _ HV.out).mono ?_
  rintro e w1 ⟨rfl, hb1⟩
  have HB1 := Lib.hid hb1
  have HV1 := Lib.hid (HV.out.below hb1 HV.out.size)
  clear hb1
  go_wp2_with fail
  refine (tokens_row _ ts _ HV1.out HT.out).mono ?_
  rintro e w2 ⟨v, rfl, hrow, hb2⟩
  have HB2 := Lib.hid (HB1.out.trans (hb2.mono HB1.out.size))
  have HV2 := Lib.hid (HV1.out.below hb2 HV1.out.size)
  have HRow := Lib.hid hrow
  clear hb2 hrow
  go_wp2_with fail
  refine (text_any v ts _ HRow.out.toks (by omega) (by omega)).mono ?_
  rw [HTT.out]
  rintro e w3 ⟨rfl, hb3⟩
  have HB3 := Lib.hid (HB2.out.trans (hb3.mono HB2.out.size))
  have HV3 := Lib.hid (HV2.out.below hb3 HV2.out.size)
  have HRow3 := Lib.hid (HRow.out.below hb3)
  clear hb3
  go_wp2_with fail
  refine (tokens_row _ (place 0 ts) _ HV3.out HT2.out).mono ?_
  rintro e w4 ⟨v4, rfl, hrow4, hb4⟩
  have HB4 := Lib.hid (HB3.out.trans (hb4.mono HB3.out.size))
  have HRow4 := Lib.hid hrow4
  have HRow5 := Lib.hid (HRow3.out.below hb4)
  clear hb4 hrow4
  go_wp2_with fail
  refine (same_no _ _ ts (place 0 ts) _ HRow5.out HRow4.out (place_len ts 0).symm hl2 (fun k hk hk2 => place_like ts 0 k hk hk2)).mono ?_
  rintro e w5 ⟨rfl, n, rfl⟩
  go_wp2_with fail
  go_ret
  exact ⟨rfl, below_drewN HB4.out _⟩
theorem back_walk (s : ByteArray) (w : World) (hv : Vars w) : Calls Tryd.prog 5 #[.string s] w fun e w' => e = .returned (.bool true) ∧ Below w.heap.size w w' := by
  cases h : tokensR s.data.toList with
  | bad p e => exact back_bad s w hv p e h
  | ok ts =>
    by_cases hg : 20000 < (txt ts).length
    · exact back_great s w hv ts h hg
    · exact back_small s w hv ts h (by omega)
end Go.Proofs.YthbhlmkgbinegaaDoor
