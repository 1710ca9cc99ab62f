/- strconv.ParseInt over digits. -/
import Derived.Test.YthbhlmkgbinegaaDoorU2
import Derived.Test.YthbhlmkgbinegaaDoorU3
import Derived.Test.YthbhlmkgbinegaaDoorShelf2
namespace Go.Proofs.YthbhlmkgbinegaaDoor
open Go.RowKit
def Fails (w : World) (e : Ending) (w' : World) : Prop := ∃ N, e = .returned (.tuple #[.int .i64 9223372036854775807, .iface 83 (.pointer (some ⟨N, 0, none⟩))]) ∧ Below w.heap.size w w'
set_option maxHeartbeats 1000000 in
theorem pi_ok (t : ByteArray) (base a : Int) (w : World)
    (hcall : Calls Tryd.prog 54 #[.string t, .int .i64 base, .int .i64 64] w fun e w' => e = .returned (.tuple #[.int .i64 a, .nilIface]) ∧ Lib.bytesWorld w 5 t = w') :
    Calls Tryd.prog 45 #[.string t, .int .i64 base, .int .i64 64] w fun e w' => e = .returned (.tuple #[.int .i64 a, .nilIface]) ∧ Below w.heap.size w w' := by
  have HC := Lib.hid hcall
  clear hcall
  go_enter Tryd.func45, Tryd.ntmps45
  go_wp2_with fail
  refine (HC.out).mono ?_
  rintro e w' ⟨rfl, rfl⟩
  go_wp2_with fail
  go_ret2
  exact ⟨rfl, bytesWorld_below w t⟩
set_option maxHeartbeats 1000000 in
theorem pi_err (t : ByteArray) (base : Int) (hs : t.size ≤ 20000) (w : World) (hv : Vars w)
    (hcall : Calls Tryd.prog 54 #[.string t, .int .i64 base, .int .i64 64] w fun e w' => e = .returned (.tuple #[.int .i64 9223372036854775807, .iface 80 (.int .i64 1)]) ∧ Lib.bytesWorld w 5 t = w') :
    Calls Tryd.prog 45 #[.string t, .int .i64 base, .int .i64 64] w (Fails w) := by
  have HC := Lib.hid hcall
  have HV := Lib.hid (hv.below (bytesWorld_below w t) hv.size).er
  have HB := Lib.hid (bytesWorld_below w t)
  clear hcall hv
  generalize Lib.bytesWorld w 5 t = w1 at *
  obtain ⟨v, hv1, hv2⟩ := HV.out
  have HV1 := Lib.hid hv1
  have HV2 := Lib.hid hv2
  clear hv1 hv2
  go_enter Tryd.func45, Tryd.ntmps45
  go_wp2_with fail
  refine (HC.out).mono ?_
  rintro e w' ⟨rfl, rfl⟩
  go_wp2_with fail
  refine (Tryd.strconv_toError_range _ t base 64 v w1 (by omega) HV1.out HV2.out).mono ?_
  rintro e w' ⟨N, rfl, hN, _, hB⟩
  clear hN
  go_wp2_with fail
  go_ret2
  exact ⟨N, rfl, HB.out.trans (hB.mono HB.out.size)⟩
end Go.Proofs.YthbhlmkgbinegaaDoor
