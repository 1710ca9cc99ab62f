/- The document's answer: starts, Blank. -/
import Derived.Test.YthbhlmkgbinegaaDoorE1
import Derived.Test.YthbhlmkgbinegaaDoorP5
namespace Go.Proofs.YthbhlmkgbinegaaDoor
open Go.RowKit
theorem hp_take {l p : List UInt8} (_h : p.length ≤ l.length) : Lib.hasPrefix l p = (l.take p.length == p) := by
  unfold Lib.hasPrefix
  rw [Bool.eq_iff_iff, List.isPrefixOf_iff_prefix, List.prefix_iff_eq_take, beq_iff_eq]
  exact eq_comm
theorem hp_short {l p : List UInt8} (h : l.length < p.length) : Lib.hasPrefix l p = false := by
  rw [Bool.eq_false_iff]; intro e; have := hp_len e; omega
set_option maxHeartbeats 1000000 in
theorem rStarts (b : Bool) (s t : ByteArray) (k : Nat) (hs : s.size ≤ 20000) (ht : t.size ≤ 100) (hk : k ≤ s.size) (w : World) (h : Lib.hasPrefix (s.data.toList.drop k) t.data.toList = b) :
    Calls Tryd.prog 47 #[.string s, .int .i64 k, .string t] w fun e w' => e = .returned (.bool b) ∧ w = w' := by
  have hl : (s.data.toList.drop k).length = s.size - k := by simp
  have htl : t.data.toList.length = t.size := by simp
  by_cases hlt : k + t.size ≤ s.size
  · have hq : ((s.extract k (k + t.size)).toList == t.toList) = b := by
      rw [ByteArray.toList_eq, ByteArray.toList_eq, ext_mid, ← h, hp_take (by omega), htl, List.drop_take, show k + t.size - k = t.size by omega]
    clear h hl htl
    go_enter Tryd.func47, Tryd.ntmps47
    go_wp2_with fail
    go_ret
    exact ⟨rfl, rfl⟩
  · have hb : b = false := by rw [← h]; exact hp_short (by omega)
    subst hb
    clear h hl htl
    go_enter Tryd.func47, Tryd.ntmps47
    go_wp2_with fail
    go_ret
    exact ⟨rfl, rfl⟩
end Go.Proofs.YthbhlmkgbinegaaDoor
