/- strconv.ParseInt over digits. -/
import Derived.Test.YthbhlmkgbinegaaDoorU1
namespace Go.Proofs.YthbhlmkgbinegaaDoor
open Go.RowKit
theorem bytesWorld_below (w : World) (t : ByteArray) : Below w.heap.size w (Lib.bytesWorld w 5 t) :=
  ⟨rfl, rfl, rfl, by rw [Lib.bytesWorld_size]; omega, fun k hk => Lib.bytesWorld_at_old w 5 t k hk⟩
def iTup (t : TypeId) : Option Nat → Value
  | some n => if n < 9223372036854775808 then .tuple #[.int .i64 n, .nilIface] else .tuple #[.int .i64 9223372036854775807, .iface t (.int .i64 1)]
  | none => .tuple #[.int .i64 9223372036854775807, .iface t (.int .i64 1)]
set_option maxRecDepth 100000 in
set_option maxHeartbeats 2000000 in
theorem ii_ok (t : ByteArray) (base : Int) (n : Nat) (a : Int) (ha : a = n) (hn : n < 9223372036854775808) (h0 : 0 < t.size) (hc : 48 ≤ (t[0].toNat : Int)) (w : World)
    (hcall : Calls Tryd.prog 63 #[.string t, .int .i64 base, .int .i64 64] w fun e w' => e = .returned (.tuple #[.int .u64 a, .nilIface]) ∧ Lib.bytesWorld w 5 t = w') :
    Calls Tryd.prog 54 #[.string t, .int .i64 base, .int .i64 64] w fun e w' => e = .returned (.tuple #[.int .i64 a, .nilIface]) ∧ Lib.bytesWorld w 5 t = w' := by
  have hemp := bytes_ne (s := t) (by omega)
  have a0 : 0 ≤ a := by omega
  have a1 : a < 9223372036854775808 := by omega
  have HC := Lib.hid hcall
  clear hcall ha hn
  go_enter Tryd.func54, Tryd.ntmps54
  go_wp2_with fail
  refine (HC.out).mono ?_
  rintro e w' ⟨rfl, rfl⟩
  go_wp2_with fail
  go_ret2
  exact ⟨rfl, rfl⟩
set_option maxRecDepth 100000 in
set_option maxHeartbeats 2000000 in
theorem ii_big (t : ByteArray) (base : Int) (a : Int) (a0 : 9223372036854775808 ≤ a) (_a1 : a < 18446744073709551616) (h0 : 0 < t.size) (hc : 48 ≤ (t[0].toNat : Int)) (w : World)
    (hcall : Calls Tryd.prog 63 #[.string t, .int .i64 base, .int .i64 64] w fun e w' => e = .returned (.tuple #[.int .u64 a, .nilIface]) ∧ Lib.bytesWorld w 5 t = w') :
    Calls Tryd.prog 54 #[.string t, .int .i64 base, .int .i64 64] w fun e w' => e = .returned (.tuple #[.int .i64 9223372036854775807, .iface 80 (.int .i64 1)]) ∧ Lib.bytesWorld w 5 t = w' := by
  have hemp := bytes_ne (s := t) (by omega)
  have HC := Lib.hid hcall
  clear hcall
  go_enter Tryd.func54, Tryd.ntmps54
  go_wp2_with fail
  refine (HC.out).mono ?_
  rintro e w' ⟨rfl, rfl⟩
  go_wp2_with fail
  go_ret2
  exact ⟨rfl, rfl⟩
set_option maxRecDepth 100000 in
set_option maxHeartbeats 2000000 in
theorem ii_none (t : ByteArray) (base : Int) (h0 : 0 < t.size) (hc : 48 ≤ (t[0].toNat : Int)) (w : World)
    (hcall : Calls Tryd.prog 63 #[.string t, .int .i64 base, .int .i64 64] w fun e w' => e = .returned (.tuple #[.int .u64 18446744073709551615, .iface 80 (.int .i64 1)]) ∧ Lib.bytesWorld w 5 t = w') :
    Calls Tryd.prog 54 #[.string t, .int .i64 base, .int .i64 64] w fun e w' => e = .returned (.tuple #[.int .i64 9223372036854775807, .iface 80 (.int .i64 1)]) ∧ Lib.bytesWorld w 5 t = w' := by
  have hemp := bytes_ne (s := t) (by omega)
  have HC := Lib.hid hcall
  have hne : ∀ w, (binOp .neq 57 (.iface 80 (.int .i64 1)) (.iface 80 (.int .i64 1))).run Tryd.prog w = .ok (.bool false) w := fun w => by kernel_rfl
  clear hcall
  go_enter Tryd.func54, Tryd.ntmps54
  go_wp2_with fail
  refine (HC.out).mono ?_
  rintro e w' ⟨rfl, rfl⟩
  go_wp2_with fail
  go_ret2
  exact ⟨rfl, rfl⟩
end Go.Proofs.YthbhlmkgbinegaaDoor
