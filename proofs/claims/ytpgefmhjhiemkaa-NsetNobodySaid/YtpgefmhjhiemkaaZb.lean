/- NsetNobody, walked. -/
import Derived.Test.YtpgefmhjhiemkaaZ6
namespace Go.Proofs.Ytpgefmhjhiemkaa
open Go.RowKit
set_option maxRecDepth 100000 in
set_option maxHeartbeats 4000000 in
theorem nobody_walk (x : Int) (w : World) :
    Calls Try.prog 7 #[.int .i64 x] w fun e w' => e = .returned (.bool true) ∧ w.grownBy w' none := by
  go_enter Try.func7, Try.ntmps7
  go_wp2_with fail
  refine (shown_any w).mono ?_
  rintro e w1 ⟨rfl, hg⟩
  have HG1 := Lib.hid hg
  clear hg
  have HW1 := Lib.hid (Wd.first w1)
  go_wp2_with fail
  refine (Add13_nil x _).mono ?_
  rintro e w2 ⟨rfl, hg⟩
  have HW2 := Lib.hid (HW1.out.keep hg)
  clear hg HW1
  go_wp2_with fail
  refine (Has13 (fun _ => False) none [] x _ rfl).mono ?_
  rintro e w3 ⟨rfl, hg⟩
  have HW3 := Lib.hid (HW2.out.keep hg)
  clear hg HW2
  go_wp2_with fail
  refine (Len13 (fun _ => False) none [] _ rfl).mono ?_
  rintro e w4 ⟨rfl, hg⟩
  have HW4 := Lib.hid (HW3.out.keep hg)
  clear hg HW3
  go_wp2_with fail
  refine (List13 (fun _ => False) none [] _ rfl).mono ?_
  rintro e w5 ⟨A1, n1, c1, rfl, hI, hg, _⟩
  obtain rfl : n1 = 0 := hI.1
  clear hI
  have HW5 := Lib.hid (HW4.out.keep hg)
  clear hg HW4
  go_wp2_with fail
  have HWn := Lib.hid (HW5.out.keep (gr_alloc (grownBy_refl _ none) (.cells #[.int .i64 1] 3)))
  have HLn := Lib.hid (Ls.fresh HW5.out [1] 3 1 #[.int .i64 1] rfl)
  clear HW5
  refine (wd_new HWn.out HLn.out (by simp)).mono ?_
  rintro e w6 ⟨t, ot, rfl, hw, hx, hltt, hnet⟩
  clear HLn
  have HW6 := Lib.hid (hw)
  clear hw hx HWn
  go_wp2_with fail
  refine (Union13_nil _ (some t) _ _ (HW6.out.sets t _ mem0)).mono ?_
  rintro e w7 ⟨rfl, hg⟩
  have HW7 := Lib.hid (HW6.out.keep hg)
  clear hg HW6
  go_wp2_with fail
  refine (Spans13 (fun _ => False) none [] _ rfl).mono ?_
  rintro e w8 ⟨A2, n2, c2, rfl, hI, hg, _⟩
  obtain rfl : n2 = 0 := hI.1
  clear hI
  have HW8 := Lib.hid (HW7.out.keep hg)
  clear hg HW7
  go_wp2_with fail
  have HWm := Lib.hid (HW8.out.keep (gr_alloc (grownBy_refl _ none) (.cells #[.int .i64 1] 3)))
  have HLn := Lib.hid (Ls.fresh HW8.out [1] 3 1 #[.int .i64 1] rfl)
  clear HW8
  refine (wd_new HWm.out HLn.out (by simp)).mono ?_
  rintro e w9 ⟨u, ou, rfl, hw, hx, hltu, hneu⟩
  clear HLn
  have HW9 := Lib.hid (hw)
  clear hw hx HWm
  go_wp2_with fail
  refine (wd_minus_nil HW9.out mem0).mono ?_
  rintro e w10 ⟨z, oz, rfl, hw, hx, hltz, hnez⟩
  have HW10 := Lib.hid (hw)
  clear hw hx HW9
  go_wp2_with fail
  refine (wd_len HW10.out mem0).mono ?_
  rintro e w11 ⟨rfl, hg⟩
  have HW11 := Lib.hid (HW10.out.keep hg)
  clear hg HW10
  go_wp2_with fail
  refine (Minus13 (fun _ => False) (fun _ => False) none none [] [] _ rfl rfl).mono ?_
  rintro e w12 ⟨q, F, rfl, hs, hg, hF⟩
  obtain ⟨oq, hw, hx, _⟩ := HW11.out.made hs hg hF
  have HW12 := Lib.hid (hw)
  clear hw hx hs hg hF HW11
  go_wp2_with fail
  refine (wd_len HW12.out mem0).mono ?_
  rintro e w13 ⟨rfl, hg⟩
  have HW13 := Lib.hid (HW12.out.keep hg)
  clear hg HW12
  go_wp2_with fail
  go_ret
  exact ⟨rfl, grownBy_trans HG1.out HW13.out.gr⟩

end Go.Proofs.Ytpgefmhjhiemkaa
