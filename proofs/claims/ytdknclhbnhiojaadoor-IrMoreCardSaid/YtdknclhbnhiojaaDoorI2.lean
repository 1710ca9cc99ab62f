/- ir: what an instruction writes, in the program's words and in the document's. -/
import Derived.Test.YtdknclhbnhiojaaDoorI1
import Derived.Laws.Externs
import Derived.Lib.Bytealg
namespace Go.Proofs.YtdknclhbnhiojaaDoor
open Go.RowKit
/-- An instruction: its parts, and what its list of arguments holds. -/
structure Ins where
  op : Int
  a : Int
  b : Int
  c : Int
  w : Int
  n : Int
  sign : ByteArray
  aa : Option Addr
  an : Nat
  ac : Nat
  args : List Int
def insC (i : Ins) : Array Value := #[.int .i64 i.op, .int .i64 i.a, .int .i64 i.b, .int .i64 i.c, .int .i64 i.w, .int .i64 i.n, .string i.sign, .slice i.aa i.an i.ac]
def insV (i : Ins) : Value := .agg (insC i)
def wrB (op : Int) : Bool := decide ((1 ≤ op ∧ op ≤ 8) ∨ op = 13 ∨ op = 15 ∨ op = 16 ∨ op = 20)
def wrI (i : Ins) : Int := if wrB i.op then i.a else -1
set_option maxRecDepth 100000 in
set_option maxHeartbeats 2000000 in
theorem IndexByte_any (s : ByteArray) (c : Int) (w : World) :
    Calls Tryd.prog 38 #[.string s, .int .u8 c] w fun e w' => e = .returned (.int .i64 (firstIdx s c.toNat.toUInt8)) ∧ w = w' := by
  go_enter Tryd.func38, Tryd.ntmps38
  go_wp2_with fail
  rw [run_callFunc_extern Tryd.func43 (by kernel_rfl) (by kernel_rfl) (by kernel_rfl) (e := Extern.BytealgIndexByte.indexByte) (by kernel_rfl), run_indexByte_string]
  simp only [Result.andThen]
  rw [Oper.upon_value]
  go_wp2
  go_ret
  exact ⟨rfl, rfl⟩
set_option maxRecDepth 100000 in
set_option maxHeartbeats 2000000 in
theorem slIndex_yes (s : ByteArray) (w : World) (h : ([61] == s.toList) = true) :
    Calls Tryd.prog 33 #[.string s, .string ⟨#[61]⟩] w fun e w' => e = .returned (.int .i64 0) ∧ w = w' := by
  go_enter Tryd.func33, Tryd.ntmps33
  go_wp2_with fail
  go_ret
  exact ⟨rfl, rfl⟩
set_option maxRecDepth 100000 in
set_option maxHeartbeats 2000000 in
theorem slIndex_no (s : ByteArray) (w : World) (h : ([61] == s.toList) = false) :
    Calls Tryd.prog 33 #[.string s, .string ⟨#[61]⟩] w fun e w' => e = .returned (.int .i64 (firstIdx s 61)) ∧ w = w' := by
  go_enter Tryd.func33, Tryd.ntmps33
  go_wp2_with fail
  refine (show Calls Tryd.prog 38 _ _ (fun e w' => e = .returned (.int .i64 (firstIdx s 61)) ∧ w = w') from IndexByte_any _ 61 _).mono ?_
  rintro e w1 ⟨rfl, rfl⟩
  go_wp2_with fail
  go_ret
  exact ⟨rfl, rfl⟩
/-- What Index answers here, and whether that is a place. -/
def IdxIs (s : ByteArray) (q : Int) : Prop := (([61] == s.toList) = true ∧ q = 0) ∨ (([61] == s.toList) = false ∧ q = firstIdx s 61)
set_option maxRecDepth 100000 in
set_option maxHeartbeats 2000000 in
theorem strIndex_any (s : ByteArray) (q : Int) (h : IdxIs s q) (w : World) :
    Calls Tryd.prog 28 #[.string s, .string ⟨#[61]⟩] w fun e w' => e = .returned (.int .i64 q) ∧ w = w' := by
  rcases h with ⟨h, rfl⟩ | ⟨h, hq⟩
  · have H := Lib.hid h
    clear h
    go_enter Tryd.func28, Tryd.ntmps28
    go_wp2_with fail
    refine (slIndex_yes _ _ H.out).mono ?_
    rintro e w1 ⟨rfl, rfl⟩
    go_wp2_with fail
    go_ret
    exact ⟨rfl, rfl⟩
  · have H := Lib.hid h
    have HQ := Lib.hid hq
    clear h hq
    go_enter Tryd.func28, Tryd.ntmps28
    go_wp2_with fail
    refine (slIndex_no _ _ H.out).mono ?_
    rintro e w1 ⟨rfl, rfl⟩
    rw [← HQ.out]
    go_wp2_with fail
    go_ret
    exact ⟨rfl, rfl⟩
theorem idx_row (op : Int) : ∃ q, IdxIs (rowB op) q ∧ ((wrB op = true ∧ decide (0 ≤ q) = true) ∨ (wrB op = false ∧ decide (0 ≤ q) = false)) := by
  by_cases h : 0 ≤ op ∧ op < 21
  · rcases op_cases h.1 h.2 with rfl | rfl | rfl | rfl | rfl | rfl | rfl | rfl | rfl | rfl | rfl | rfl | rfl | rfl | rfl | rfl | rfl | rfl | rfl | rfl | rfl
    all_goals first | exact ⟨_, .inl ⟨by decide +kernel, rfl⟩, .inl ⟨by decide +kernel, by decide +kernel⟩⟩ | exact ⟨_, .inr ⟨by decide +kernel, rfl⟩, .inl ⟨by decide +kernel, by decide +kernel⟩⟩ | exact ⟨_, .inr ⟨by decide +kernel, rfl⟩, .inr ⟨by decide +kernel, by decide +kernel⟩⟩
  · refine ⟨firstIdx (rowB op) 61, .inr ⟨?_, rfl⟩, .inr ⟨by unfold wrB; simp; omega, ?_⟩⟩
    all_goals
      unfold rowB
      rw [rowL_out h]
      decide +kernel
set_option maxRecDepth 100000 in
set_option maxHeartbeats 2000000 in
theorem Contains_row (op : Int) (w : World) :
    Calls Tryd.prog 20 #[.string (rowB op), .string ⟨#[61]⟩] w fun e w' => e = .returned (.bool (wrB op)) ∧ w = w' := by
  obtain ⟨q, hq, hi⟩ := idx_row op
  generalize rowB op = s at *
  have HQ := Lib.hid hq
  clear hq
  rcases hi with ⟨h1, h2⟩ | ⟨h1, h2⟩
  all_goals
    rw [h1]
    clear h1
    go_enter Tryd.func20, Tryd.ntmps20
    go_wp2_with fail
    refine (strIndex_any _ _ HQ.out _).mono ?_
    rintro e w1 ⟨rfl, rfl⟩
    go_wp2_with fail
    go_ret
    exact ⟨rfl, rfl⟩
set_option maxRecDepth 100000 in
set_option maxHeartbeats 2000000 in
theorem Writes_any (i : Ins) (w : World) (hv : VarsR w) :
    Calls Tryd.prog 14 #[insV i] w fun e w' => e = .returned (.int .i64 (wrI i)) ∧ w.grownBy w' none := by
  have HV := Lib.hid hv
  clear hv
  unfold wrI insV insC
  obtain ⟨op, a, b, c, ww, n, sign, aa, an, ac, args⟩ := i
  dsimp only
  rcases hb : wrB op
  all_goals
    have HB := Lib.hid hb
    clear hb
    first | rw [if_neg Bool.false_ne_true] | rw [if_pos rfl]
    go_enter Tryd.func14, Tryd.ntmps14
    go_wp2_with fail
    refine (row_any _ _ (HV.out.alloc _)).mono ?_
    rintro e w1 ⟨rfl, rfl⟩
    go_wp2_with fail
    refine (Contains_row _ _).mono ?_
    rintro e w1 ⟨rfl, rfl⟩
    rw [HB.out]
    go_wp2_with fail
    go_ret
    exact ⟨rfl, by repeat (first | with_reducible exact grownBy_refl _ _ | with_reducible assumption | with_reducible refine World.grownBy.gr_drew ?_ | with_reducible refine World.grownBy.gr_set ?_ (by simp) _ | with_reducible refine gr_alloc ?_ _)⟩
set_option maxRecDepth 100000 in
set_option maxHeartbeats 2000000 in
theorem r8_writes_any (op : Int) (w : World) :
    Calls Tryd.prog 21 #[.int .i64 op] w fun e w' => e = .returned (.bool (wrB op)) ∧ w = w' := by
  by_cases hA : 1 ≤ op ∧ op ≤ 8
  · rw [show wrB op = true by unfold wrB; simp; omega]
    obtain ⟨h1, h8⟩ := hA
    go_enter Tryd.func21, Tryd.ntmps21
    go_wp2_with fail
    go_ret
    exact ⟨rfl, rfl⟩
  · by_cases h13 : op = 13
    · subst h13
      rw [show wrB 13 = true from rfl]
      go_enter Tryd.func21, Tryd.ntmps21
      go_wp2_with fail
      go_ret
      exact ⟨rfl, rfl⟩
    · by_cases h15 : op = 15
      · subst h15
        rw [show wrB 15 = true from rfl]
        go_enter Tryd.func21, Tryd.ntmps21
        go_wp2_with fail
        go_ret
        exact ⟨rfl, rfl⟩
      · by_cases h16 : op = 16
        · subst h16
          rw [show wrB 16 = true from rfl]
          go_enter Tryd.func21, Tryd.ntmps21
          go_wp2_with fail
          go_ret
          exact ⟨rfl, rfl⟩
        · by_cases h20 : op = 20
          · subst h20
            rw [show wrB 20 = true from rfl]
            go_enter Tryd.func21, Tryd.ntmps21
            go_wp2_with fail
            go_ret
            exact ⟨rfl, rfl⟩
          · rw [show wrB op = false by unfold wrB; simp; omega]
            have e13 : (op == 13) = false := by simpa using h13
            have e15 : (op == 15) = false := by simpa using h15
            have e16 : (op == 16) = false := by simpa using h16
            have e20 : (op == 20) = false := by simpa using h20
            by_cases h1 : 1 ≤ op
            · have h8 : ¬ op ≤ 8 := by omega
              clear hA
              go_enter Tryd.func21, Tryd.ntmps21
              go_wp2_with fail
              go_ret
              exact ⟨rfl, rfl⟩
            · clear hA
              go_enter Tryd.func21, Tryd.ntmps21
              go_wp2_with fail
              go_ret
              exact ⟨rfl, rfl⟩
set_option maxRecDepth 100000 in
set_option maxHeartbeats 2000000 in
theorem r8_Writes_any (i : Ins) (w : World) :
    Calls Tryd.prog 15 #[insV i] w fun e w' => e = .returned (.int .i64 (wrI i)) ∧ w.grownBy w' none := by
  unfold wrI insV insC
  obtain ⟨op, a, b, c, ww, n, sign, aa, an, ac, args⟩ := i
  dsimp only
  rcases hb : wrB op
  all_goals
    have HB := Lib.hid hb
    clear hb
    first | rw [if_neg Bool.false_ne_true] | rw [if_pos rfl]
    go_enter Tryd.func15, Tryd.ntmps15
    go_wp2_with fail
    refine (r8_writes_any _ _).mono ?_
    rintro e w1 ⟨rfl, rfl⟩
    rw [HB.out]
    go_wp2_with fail
    go_ret
    exact ⟨rfl, by repeat (first | with_reducible exact grownBy_refl _ _ | with_reducible assumption | with_reducible refine World.grownBy.gr_drew ?_ | with_reducible refine World.grownBy.gr_set ?_ (by simp) _ | with_reducible refine gr_alloc ?_ _)⟩

end Go.Proofs.YtdknclhbnhiojaaDoor
