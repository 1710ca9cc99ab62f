/- LexTokens: the walk. -/
import Derived.Test.YthbhlmkgbinegaaDoorE9
namespace Go.Proofs.YthbhlmkgbinegaaDoor
open Go.RowKit
theorem rtokens_row (s : ByteArray) (l : List T4) (w : World) (h : tokensR s.data.toList = .ok l) :
    Calls Tryd.prog 13 #[.string s] w fun e w' => ∃ v, e = .returned (.tuple #[v, .int .i64 0, .int .i64 0]) ∧ Row w' v l ∧ Below w.heap.size w w' :=
  (rTokens_any s w).mono fun e w' hp => by
    rw [h] at hp
    obtain ⟨hB, v, he, ho⟩ := hp
    exact ⟨v, he, row_of ho, hB⟩
theorem rtokens_bad (s : ByteArray) (p : Nat) (er : Int) (w : World) (h : tokensR s.data.toList = .bad p er) :
    Calls Tryd.prog 13 #[.string s] w fun e w' => e = .returned (.tuple #[.slice none 0 0, .int .i64 p, .int .i64 er]) ∧ Below w.heap.size w w' :=
  (rTokens_any s w).mono fun e w' hp => by rw [h] at hp; exact ⟨hp.2, hp.1⟩
set_option maxRecDepth 100000 in
set_option maxHeartbeats 4000000 in
theorem toks_ok (s : ByteArray) (w : World) (hv : Vars w) (ts : List T4) (h : tokensR s.data.toList = .ok ts) :
    Calls Tryd.prog 3 #[.string s] w fun e w' => e = .returned (.bool true) ∧ Below w.heap.size w w' := by
  obtain ⟨hsz, hlex⟩ := tokens_ok_facts h
  have HR := Lib.hid (rises_of s.data.toList ts 0 (by omega) (by simpa using hlex))
  have hcount : ts.length ≤ 20000 := by have := rises_count _ ts 0 (by omega) HR.out; omega
  have HV := Lib.hid hv
  have HT := Lib.hid h
  clear hv h hlex hsz HR
  go_enter Tryd.func3, Tryd.ntmps3
  go_wp2_with fail
  refine (shown_any _ HV.out).mono ?_
  rintro e w1 ⟨rfl, hb1⟩
  have HB1 := Lib.hid hb1
  have HV1 := Lib.hid (HV.out.below hb1 HV.out.size)
  clear hb1
  go_wp2_with fail
  refine (tokens_row _ ts _ HV1.out HT.out).mono ?_
  rintro e w2 ⟨v, rfl, hrow, hb2⟩
  have HB2 := Lib.hid (HB1.out.trans (hb2.mono HB1.out.size))
  have HRow := Lib.hid hrow
  clear hb2 hrow
  go_wp2_with fail
  refine (rtokens_row _ ts _ HT.out).mono ?_
  rintro e w3 ⟨v3, rfl, hrow3, hb3⟩
  have HB3 := Lib.hid (HB2.out.trans (hb3.mono HB2.out.size))
  have HRow2 := Lib.hid (HRow.out.below hb3)
  have HRow3 := Lib.hid hrow3
  clear hb3 hrow3
  go_wp2_with fail
  refine (same_yes _ _ ts ts _ HRow2.out HRow3.out rfl hcount (fun k _ _ => ⟨rfl, rfl, rfl, fun _ => rfl⟩)).mono ?_
  rintro e w4 ⟨rfl, n, rfl⟩
  go_wp2_with fail
  go_ret
  exact ⟨rfl, below_drewN HB3.out _⟩
set_option maxRecDepth 100000 in
set_option maxHeartbeats 4000000 in
theorem toks_bad (s : ByteArray) (w : World) (hv : Vars w) (p : Nat) (er : Int) (h : tokensR s.data.toList = .bad p er) :
    Calls Tryd.prog 3 #[.string s] w fun e w' => e = .returned (.bool true) ∧ Below w.heap.size w w' := by
  have HV := Lib.hid hv
  have HT := Lib.hid h
  clear hv h
  go_enter Tryd.func3, Tryd.ntmps3
  go_wp2_with fail
  refine (shown_any _ HV.out).mono ?_
  rintro e w1 ⟨rfl, hb1⟩
  have HB1 := Lib.hid hb1
  have HV1 := Lib.hid (HV.out.below hb1 HV.out.size)
  clear hb1
  go_wp2_with fail
  refine (tokens_bad _ p er _ HV1.out HT.out).mono ?_
  rintro e w2 ⟨rfl, hb2⟩
  have HB2 := Lib.hid (HB1.out.trans (hb2.mono HB1.out.size))
  clear hb2
  go_wp2_with fail
  refine (rtokens_bad _ p er _ HT.out).mono ?_
  rintro e w3 ⟨rfl, hb3⟩
  have HB3 := Lib.hid (HB2.out.trans (hb3.mono HB2.out.size))
  clear hb3
  go_wp2_with fail
  have hn : ∀ W : World, Row W (.slice none 0 0) [] := fun W => ⟨none, 0, rfl, fun h => absurd rfl h⟩
  have HN := Lib.hid hn
  clear hn
  refine (same_yes _ _ [] [] _ (HN.out _) (HN.out _) rfl (by simp) (fun k hk _ => absurd hk (by simp))).mono ?_
  rintro e w4 ⟨rfl, n, rfl⟩
  go_wp2_with fail
  go_ret
  exact ⟨rfl, below_drewN HB3.out _⟩
theorem tokens_walk (s : ByteArray) (w : World) (hv : Vars w) : Calls Tryd.prog 3 #[.string s] w fun e w' => e = .returned (.bool true) ∧ Below w.heap.size w w' := by
  cases h : tokensR s.data.toList with
  | ok ts => exact toks_ok s w hv ts h
  | bad p e => exact toks_bad s w hv p e h
end Go.Proofs.YthbhlmkgbinegaaDoor
