/- LexNames: the walk. -/
import Derived.Test.YthbhlmkgbinegaaDoorE10
namespace Go.Proofs.YthbhlmkgbinegaaDoor
open Go.RowKit
theorem name_is (b : Bool) (s : ByteArray) (w : World) (hs : s.size ≤ maxLen) (hv : Vars w) (h : isName s.data.toList = b) :
    Calls Tryd.prog 15 #[.string s] w fun e w' => e = .returned (.bool b) ∧ w = w' := by
  subst h; exact name_any s w hs hv
theorem rn_is (b : Bool) (s : ByteArray) (w : World) (hs : s.size ≤ maxLen) (h : isName s.data.toList = b) :
    Calls Tryd.prog 16 #[.string s] w fun e w' => e = .returned (.bool b) ∧ Below w.heap.size w w' := by
  subst h; exact rName s w hs
set_option maxRecDepth 100000 in
set_option maxHeartbeats 4000000 in
theorem names_walk (s : ByteArray) (v : Value) (l : List T4) (w : World) (hs : s.size ≤ maxLen) (hv : Vars w) (ht : Toks w v l) (hl : l.length ≤ 100000000) (hlen : (txt l).length ≤ 100000000) :
    Calls Tryd.prog 4 #[.string s, v] w fun e w' => e = .returned (.bool true) ∧ Below w.heap.size w w' := by
  obtain ⟨b1, h1⟩ : ∃ b, isName s.data.toList = b := ⟨_, rfl⟩
  obtain ⟨b2, h2⟩ : ∃ b, isKw s.data.toList = b := ⟨_, rfl⟩
  have H1 := Lib.hid h1
  have H2 := Lib.hid h2
  have HV := Lib.hid hv
  have HT := Lib.hid ht
  have HS := Lib.hid hs
  have HL := Lib.hid hl
  have HN := Lib.hid hlen
  clear h1 h2 hv ht hs hl hlen
  go_enter Tryd.func4, Tryd.ntmps4
  go_wp2_with fail
  refine (shown_any _ HV.out).mono ?_
  rintro e w1 ⟨rfl, hb1⟩
  have HB1 := Lib.hid hb1
  have HV1 := Lib.hid (HV.out.below hb1 HV.out.size)
  have HT1 := Lib.hid (HT.out.below hb1)
  clear hb1
  go_wp2_with fail
  refine (name_is _ _ _ HS.out HV1.out H1.out).mono ?_
  rintro e w1' ⟨rfl, rfl⟩
  go_wp2_with fail
  refine (rn_is _ _ _ HS.out H1.out).mono ?_
  rintro e w2 ⟨rfl, hb2⟩
  have HB2 := Lib.hid (HB1.out.trans (hb2.mono HB1.out.size))
  have HV2 := Lib.hid (HV1.out.below hb2 HV1.out.size)
  have HT2 := Lib.hid (HT1.out.below hb2)
  clear hb2
  have e1 : (b1 == b1) = true := by simp
  go_wp2_with fail
  refine (kw_is _ _ _ HV2.out H2.out).mono ?_
  rintro e w2' ⟨rfl, rfl⟩
  go_wp2_with fail
  refine (rw_is' _ _ _ H2.out).mono ?_
  rintro e w3 ⟨rfl, hb3⟩
  have HB3 := Lib.hid (HB2.out.trans (hb3.mono HB2.out.size))
  have HT3 := Lib.hid (HT2.out.below hb3)
  clear hb3
  have e2 : (b2 == b2) = true := by simp
  go_wp2_with fail
  refine (text_any v l _ HT3.out HL.out HN.out).mono ?_
  rintro e w4 ⟨rfl, hb4⟩
  have HB4 := Lib.hid (HB3.out.trans (hb4.mono HB3.out.size))
  have HT4 := Lib.hid (HT3.out.below hb4)
  clear hb4
  go_wp2_with fail
  refine (rText v l _ HT4.out HL.out HN.out).mono ?_
  rintro e w4' ⟨rfl, rfl⟩
  go_wp2_with fail
  go_ret
  refine ⟨?_, HB4.out⟩
  simp
end Go.Proofs.YthbhlmkgbinegaaDoor
