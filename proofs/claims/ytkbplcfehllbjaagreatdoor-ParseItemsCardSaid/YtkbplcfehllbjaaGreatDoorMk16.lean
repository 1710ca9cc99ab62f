/- Merged: A1, P0, A2, A3, Shelf, P1, A4, A5, A6. -/
import Derived.Test.YtkbplcfehllbjaaGreatDoorMk15
import Derived.Test.YtkbplcfehllbjaaGreatDoorChecked
import Derived.WalkKit
import Derived.WalkSpells
import Derived.WalkLawsBesides
import Derived.Outline
import Derived.Deep.QuietTactic
import Derived.BigQuiet
import Derived.LoopTactic
import Derived.Lib.Hide
import Derived.Laws.Rows
import Derived.Below
import Derived.Shelf.Strings.Builder1
import Derived.Shelf.Strings.BuilderF
import Derived.Shelf.Strings.BuilderK
import Derived.Shelf.LaysM
import Derived.Shelf.Strconv.Clone
import Derived.Shelf.Strings.Search1
import Derived.Shelf.Strings.Search2
import Derived.Shelf.Strings.Search3
import Derived.Shelf.Strings.Shaped
import Derived.Shelf.Strings.Prefix
import Derived.Test.YtkbplcfehllbjaaGreatDoorProg
import Derived.Laws.ResultCell
import Derived.RegionTactic
import Derived.ChangeAlike
/- The leaf contracts of lex: isSpace, isLetter, isDigit, isHex, isWordByte, isPlain. -/
namespace Go.Proofs.YtkbplcfehllbjaaGreatDoor
open Go.RowKit
def isDig (c : Int) : Bool := decide (48 ≤ c) && decide (c ≤ 57)
def isLet (c : Int) : Bool := decide (97 ≤ c) && decide (c ≤ 122) || decide (65 ≤ c) && decide (c ≤ 90) || c == 95
def isHx (c : Int) : Bool := isDig c || decide (97 ≤ c) && decide (c ≤ 102) || decide (65 ≤ c) && decide (c ≤ 70)
def isSp (c : Int) : Bool := c == 32 || c == 9 || c == 10 || c == 13
def isWb (c : Int) : Bool := isLet c || isDig c
def isPl (c : Int) : Bool := decide (32 ≤ c) && decide (c ≤ 126) && c != 39 && c != 92
theorem ret_bool {a b : Bool} (h : a = b) : Ending.returned (.bool a) = .returned (.bool b) := by rw [h]
theorem ret_int {k : IntKind} {a b : Int} (h : a = b) : Ending.returned (.int k a) = .returned (.int k b) := by rw [h]
set_option maxHeartbeats 400000 in
theorem isDigit_any (c : Int) (w : World) :
    Calls Tryz.prog 25 #[.int .u8 c] w fun e w' => e = .returned (.bool (isDig c)) ∧ w = w' := by
  go_enter Tryz.func25, Tryz.ntmps25
  go_wp2
  all_goals go_ret
  all_goals exact ⟨ret_bool (by rw [Bool.eq_iff_iff]; simp [isDig]; try omega), rfl⟩
set_option maxHeartbeats 400000 in
theorem isLetter_any (c : Int) (w : World) :
    Calls Tryz.prog 23 #[.int .u8 c] w fun e w' => e = .returned (.bool (isLet c)) ∧ w = w' := by
  go_enter Tryz.func23, Tryz.ntmps23
  go_wp2
  all_goals go_ret
  all_goals exact ⟨ret_bool (by rw [Bool.eq_iff_iff]; simp [isLet]; try omega), rfl⟩
set_option maxHeartbeats 400000 in
theorem isSpace_any (c : Int) (w : World) :
    Calls Tryz.prog 20 #[.int .u8 c] w fun e w' => e = .returned (.bool (isSp c)) ∧ w = w' := by
  go_enter Tryz.func20, Tryz.ntmps20
  go_wp2
  all_goals go_ret
  all_goals exact ⟨ret_bool (by rw [Bool.eq_iff_iff]; simp_all [isSp]; try omega), rfl⟩
set_option maxHeartbeats 400000 in
theorem isPlain_any (c : Int) (w : World) :
    Calls Tryz.prog 42 #[.int .u8 c] w fun e w' => e = .returned (.bool (isPl c)) ∧ w = w' := by
  go_enter Tryz.func42, Tryz.ntmps42
  go_wp2
  all_goals go_ret
  all_goals exact ⟨ret_bool (by rw [Bool.eq_iff_iff]; simp_all [isPl]; try omega), rfl⟩
set_option maxHeartbeats 400000 in
theorem isHex_any (c : Int) (w : World) :
    Calls Tryz.prog 47 #[.int .u8 c] w fun e w' => e = .returned (.bool (isHx c)) ∧ w = w' := by
  go_enter Tryz.func47, Tryz.ntmps47
  go_wp2_with (go_at_call 25; refine (isDigit_any _ _).mono ?_; rintro e w' ⟨rfl, rfl⟩)
  all_goals go_ret
  all_goals exact ⟨ret_bool (by rw [Bool.eq_iff_iff]; simp_all [isHx]; try omega), rfl⟩
set_option maxHeartbeats 400000 in
theorem isWordByte_any (c : Int) (w : World) :
    Calls Tryz.prog 38 #[.int .u8 c] w fun e w' => e = .returned (.bool (isWb c)) ∧ w = w' := by
  go_enter Tryz.func38, Tryz.ntmps38
  go_wp2_with (first | (go_at_call 25; refine (isDigit_any _ _).mono ?_; rintro e w' ⟨rfl, rfl⟩) | (go_at_call 23; refine (isLetter_any _ _).mono ?_; rintro e w' ⟨rfl, rfl⟩))
  all_goals go_ret
  all_goals exact ⟨ret_bool (by rw [Bool.eq_iff_iff]; simp_all [isWb]; try omega), rfl⟩
end Go.Proofs.YtkbplcfehllbjaaGreatDoor
/- Plain: the length of the longest prefix of a list of bytes whose bytes are of a kind. -/
namespace Go.Proofs.YtkbplcfehllbjaaGreatDoor
def pfx (p : Int → Bool) : List UInt8 → Nat
  | [] => 0
  | b :: l => if p b.toNat = true then pfx p l + 1 else 0
theorem pfx_le (p : Int → Bool) (l : List UInt8) : pfx p l ≤ l.length := by
  induction l with
  | nil => simp [pfx]
  | cons b l ih => simp only [pfx]; split <;> simp <;> omega
/-- all the first k are of the kind, the k-th isn't (or there is none): then k is the length. -/
theorem pfx_eq (p : Int → Bool) (l : List UInt8) (k : Nat) (hk : k ≤ l.length) (h : ∀ i (hi : i < k), p (l[i]'(by omega)).toNat = true) (hn : ∀ (hi : k < l.length), p (l[k]).toNat = false) : pfx p l = k := by
  induction l generalizing k with
  | nil => simp at hk; simp [pfx, hk]
  | cons b l ih =>
    cases k with
    | zero => have := hn (by simp); simp at this; simp [pfx, this]
    | succ k =>
      have h0 := h 0 (by omega); simp at h0
      simp only [pfx, h0, if_true]
      rw [ih k (by simpa using hk) (fun i hi => by simpa using h (i+1) (by omega)) (fun hi => hn (by simpa using hi))]
theorem pfx_all (p : Int → Bool) (l : List UInt8) (i : Nat) (hi : i < pfx p l) : p (l[i]'(Nat.lt_of_lt_of_le hi (pfx_le p l))).toNat = true := by
  induction l generalizing i with
  | nil => simp [pfx] at hi
  | cons b l ih =>
    simp only [pfx] at hi
    split at hi
    · cases i with
      | zero => simpa
      | succ i => simpa using ih i (by omega)
    · omega
theorem pfx_not (p : Int → Bool) (l : List UInt8) (hi : pfx p l < l.length) : p (l[pfx p l]).toNat = false := by
  induction l with
  | nil => simp at hi
  | cons b l ih =>
    by_cases hb : p b.toNat = true
    · have e : pfx p (b :: l) = pfx p l + 1 := by simp [pfx, hb]
      simp only [e, List.length_cons] at hi
      simp only [e, List.getElem_cons_succ]
      exact ih (by omega)
    · have e : pfx p (b :: l) = 0 := by simp [pfx, hb]
      simp only [e, List.getElem_cons_zero]
      simpa using hb
theorem bytes_len (s : ByteArray) : s.data.toList.length = s.size := by simp
theorem bytes_get (s : ByteArray) (k : Nat) (h : k < s.size) : s.data.toList[k]'(by simpa using h) = s[k] := rfl
theorem pfx_bytes (p : Int → Bool) (s : ByteArray) (k : Nat) (hk : k ≤ s.size) (h : ∀ i (hi : i < k), p (s[i]'(by omega)).toNat = true) (hn : ∀ (hi : k < s.size), p (s[k]).toNat = false) : pfx p s.data.toList = k :=
  pfx_eq p _ k (by simpa using hk) (fun i hi => h i hi) (fun hi => hn (by simpa using hi))
end Go.Proofs.YtkbplcfehllbjaaGreatDoor
/- lex.prefix at the three functions that it is called with. -/
namespace Go.Proofs.YtkbplcfehllbjaaGreatDoor
open Go.RowKit
set_option maxHeartbeats 400000 in
theorem prefix_wb (s : ByteArray) (w : World) (hs : s.size ≤ maxLen) :
    Calls Tryz.prog 37 #[.string s, .func (.func 38) #[] #[]] w fun e w' => e = .returned (.int .i64 (pfx isWb s.data.toList : Nat)) ∧ w = w' := by
  unfold maxLen at hs
  go_enter Tryz.func37, Tryz.ntmps37
  go_wp2_with fail
  go_loop [5] (fun i => ∃ k : Nat, k ≤ s.size ∧ i = .int .i64 k ∧ ∀ j (hj : j < k) (hj2 : j < s.size), isWb (s[j].toNat) = true) (fun i => s.size - (intOf i).toNat)
  case atStart => exact ⟨0, Nat.zero_le _, rfl, fun j hj => absurd hj (by omega)⟩
  case round =>
    obtain ⟨k, hk, rfl, hall0⟩ := hrel
    have hall := Lib.hid hall0
    clear hall0
    by_cases hlt : k < s.size
    · cases hb : isWb (s[k].toNat) with
      | true =>
        have hb' := Lib.hid hb
        go_wp2_with (go_at_call 38; refine (isWordByte_any _ _).mono ?_; rintro e w' ⟨rfl, rfl⟩)
        go_round
        case rel => exact ⟨k + 1, by omega, by go_num, fun j hj hj2 => by
          by_cases e : j = k
          · subst e; exact hb'.out
          · exact hall.out j (by omega) hj2⟩
        case measure => simp [intOf]; omega
      | false =>
        have hb' := Lib.hid hb
        go_wp2_with (go_at_call 38; refine (isWordByte_any _ _).mono ?_; rintro e w' ⟨rfl, rfl⟩)
        go_ret
        exact ⟨ret_int (by rw [pfx_bytes isWb s k hk (fun i hi => hall.out i hi (by omega)) (fun _ => hb'.out)]), rfl⟩
    · go_wp2_with fail
      go_ret
      exact ⟨ret_int (by rw [pfx_bytes isWb s k hk (fun i hi => hall.out i hi (by omega)) (fun h => absurd h hlt)]), rfl⟩
set_option maxHeartbeats 400000 in
theorem prefix_dig (s : ByteArray) (w : World) (hs : s.size ≤ maxLen) :
    Calls Tryz.prog 37 #[.string s, .func (.func 25) #[] #[]] w fun e w' => e = .returned (.int .i64 (pfx isDig s.data.toList : Nat)) ∧ w = w' := by
  unfold maxLen at hs
  go_enter Tryz.func37, Tryz.ntmps37
  go_wp2_with fail
  go_loop [5] (fun i => ∃ k : Nat, k ≤ s.size ∧ i = .int .i64 k ∧ ∀ j (hj : j < k) (hj2 : j < s.size), isDig (s[j].toNat) = true) (fun i => s.size - (intOf i).toNat)
  case atStart => exact ⟨0, Nat.zero_le _, rfl, fun j hj => absurd hj (by omega)⟩
  case round =>
    obtain ⟨k, hk, rfl, hall0⟩ := hrel
    have hall := Lib.hid hall0
    clear hall0
    by_cases hlt : k < s.size
    · cases hb : isDig (s[k].toNat) with
      | true =>
        have hb' := Lib.hid hb
        go_wp2_with (go_at_call 25; refine (isDigit_any _ _).mono ?_; rintro e w' ⟨rfl, rfl⟩)
        go_round
        case rel => exact ⟨k + 1, by omega, by go_num, fun j hj hj2 => by
          by_cases e : j = k
          · subst e; exact hb'.out
          · exact hall.out j (by omega) hj2⟩
        case measure => simp [intOf]; omega
      | false =>
        have hb' := Lib.hid hb
        go_wp2_with (go_at_call 25; refine (isDigit_any _ _).mono ?_; rintro e w' ⟨rfl, rfl⟩)
        go_ret
        exact ⟨ret_int (by rw [pfx_bytes isDig s k hk (fun i hi => hall.out i hi (by omega)) (fun _ => hb'.out)]), rfl⟩
    · go_wp2_with fail
      go_ret
      exact ⟨ret_int (by rw [pfx_bytes isDig s k hk (fun i hi => hall.out i hi (by omega)) (fun h => absurd h hlt)]), rfl⟩
set_option maxHeartbeats 400000 in
theorem prefix_hx (s : ByteArray) (w : World) (hs : s.size ≤ maxLen) :
    Calls Tryz.prog 37 #[.string s, .func (.func 47) #[] #[]] w fun e w' => e = .returned (.int .i64 (pfx isHx s.data.toList : Nat)) ∧ w = w' := by
  unfold maxLen at hs
  go_enter Tryz.func37, Tryz.ntmps37
  go_wp2_with fail
  go_loop [5] (fun i => ∃ k : Nat, k ≤ s.size ∧ i = .int .i64 k ∧ ∀ j (hj : j < k) (hj2 : j < s.size), isHx (s[j].toNat) = true) (fun i => s.size - (intOf i).toNat)
  case atStart => exact ⟨0, Nat.zero_le _, rfl, fun j hj => absurd hj (by omega)⟩
  case round =>
    obtain ⟨k, hk, rfl, hall0⟩ := hrel
    have hall := Lib.hid hall0
    clear hall0
    by_cases hlt : k < s.size
    · cases hb : isHx (s[k].toNat) with
      | true =>
        have hb' := Lib.hid hb
        go_wp2_with (go_at_call 47; refine (isHex_any _ _).mono ?_; rintro e w' ⟨rfl, rfl⟩)
        go_round
        case rel => exact ⟨k + 1, by omega, by go_num, fun j hj hj2 => by
          by_cases e : j = k
          · subst e; exact hb'.out
          · exact hall.out j (by omega) hj2⟩
        case measure => simp [intOf]; omega
      | false =>
        have hb' := Lib.hid hb
        go_wp2_with (go_at_call 47; refine (isHex_any _ _).mono ?_; rintro e w' ⟨rfl, rfl⟩)
        go_ret
        exact ⟨ret_int (by rw [pfx_bytes isHx s k hk (fun i hi => hall.out i hi (by omega)) (fun _ => hb'.out)]), rfl⟩
    · go_wp2_with fail
      go_ret
      exact ⟨ret_int (by rw [pfx_bytes isHx s k hk (fun i hi => hall.out i hi (by omega)) (fun h => absurd h hlt)]), rfl⟩
end Go.Proofs.YtkbplcfehllbjaaGreatDoor
/- lex.Word. -/
namespace Go.Proofs.YtkbplcfehllbjaaGreatDoor
open Go.RowKit
def kwL : List (List UInt8) := [[99, 104, 97, 114], [105, 110, 116], [108, 111, 110, 103], [118, 111, 105, 100], [115, 116, 114, 117, 99, 116], [117, 110, 105, 111, 110], [105, 102], [101, 108, 115, 101], [119, 104, 105, 108, 101], [114, 101, 116, 117, 114, 110], [98, 114, 101, 97, 107], [99, 111, 110, 116, 105, 110, 117, 101], [115, 105, 122, 101, 111, 102]]
def opL : List (List UInt8) := [[45, 62], [61, 61], [33, 61], [60, 61], [62, 61], [60, 60], [62, 62], [40], [41], [91], [93], [123], [125], [59], [44], [46], [43], [45], [42], [47], [37], [38], [124], [94], [33], [126], [60], [62], [61]]
def isKw (l : List UInt8) : Bool := kwL.contains l
theorem isKw_at (l : List UInt8) (k : Nat) (h : k < kwL.length) (e : kwL[k] = l) : isKw l = true := by
  subst e; exact List.contains_iff_mem.2 (List.getElem_mem h)
theorem isKw_no (l : List UInt8) (h : ∀ j (hj2 : j < kwL.length), kwL[j] ≠ l) : isKw l = false := by
  cases e : isKw l with
  | false => rfl
  | true => obtain ⟨j, hj, e⟩ := List.getElem_of_mem (List.contains_iff_mem.1 e); exact absurd e (h j hj)
theorem seq_true {s : ByteArray} {x : List UInt8} (h : (s.toList == x) = true) : x = s.data.toList := by
  have := eq_of_beq h
  rw [← this, ByteArray.toList_eq]
theorem seq_false {s : ByteArray} {x : List UInt8} (h : (s.toList == x) = false) : x ≠ s.data.toList := by
  intro e; subst e; simp [ByteArray.toList_eq] at h
def strs (l : List (List UInt8)) : Array Value := (l.map fun x => Value.string ⟨x.toArray⟩).toArray
def kwC : Array Value := strs kwL
def opC : Array Value := strs opL
theorem kwC_size : kwC.size = 13 := by kernel_rfl
theorem opC_size : opC.size = 29 := by kernel_rfl
/-- What the program's tables hold. -/
structure Vars (w : World) : Prop where
  size : 8 ≤ w.heap.size
  kw : ∃ t fr, w.heap[1]? = some (.cells kwC t fr)
  op : ∃ t fr, w.heap[0]? = some (.cells opC t fr)
  ml : ∃ m, w.cell? ⟨2, 0, none⟩ = some (.int .i64 m)
  er : ∃ v, w.cell? ⟨4, 0, none⟩ = some v ∧ (v = .nilIface ∨ ∃ t p, v = .iface t p)
theorem Vars.below {w w' : World} {B : Nat} (h : Vars w) (b : Below B w w') (hB : 8 ≤ B) : Vars w' := by
  refine ⟨Nat.le_trans h.size b.size, ?_, ?_, ?_, ?_⟩
  · rw [b.block 1 (by omega)]; exact h.kw
  · rw [b.block 0 (by omega)]; exact h.op
  · rw [b.cell (p := ⟨2, 0, none⟩) (by show 2 < B; omega)]; exact h.ml
  · rw [b.cell (p := ⟨4, 0, none⟩) (by show 4 < B; omega)]; exact h.er
theorem index_tab {T : TypeId} {n : Nat} (l : List (List UInt8)) (k : Nat) (hk : k < l.length) (w : World) (h : Tryz.prog.underlying T = some (.array n 9)) (hn : n = l.length) :
    (Instr.index T (.agg (strs l)) (.int .i64 k)).run Tryz.prog w = .ok (.string ⟨(l[k]).toArray⟩) w := by
  have h9 : (sizeOf 9).run Tryz.prog w = .ok 1 w := by kernel_rfl
  have ha : (isAgg 9).run Tryz.prog w = .ok false w := by kernel_rfl
  have e : (strs l)[k]? = some (.string ⟨(l[k]).toArray⟩) := by
    unfold strs
    simp [hk]
  subst hn
  have hk1 : (0 : Int) ≤ k ∧ (k : Int) < l.length := by omega
  simp [Instr.index, Sem.run_bind, run_underlying h, asIntOf, part, h9, hk, e]
set_option maxHeartbeats 400000 in
theorem word_any (s : ByteArray) (w : World) (hv : Vars w) :
    Calls Tryz.prog 39 #[.string s] w fun e w' => e = .returned (.bool (isKw s.data.toList)) ∧ w = w' := by
  obtain ⟨t, fr, hg⟩ := hv.kw
  have HG := Lib.hid hg
  clear hg hv
  go_enter Tryz.func39, Tryz.ntmps39
  go_wp2_with (refine wpList_load_row rfl 85 _ rfl 1 rfl t _ fr _ HG.out Tryz.underlying85 rfl (by kernel_rfl) ?_)
  go_loop [4, 6] (fun _ i => ∃ k : Nat, k ≤ 13 ∧ i = .int .i64 k ∧ ∀ j (hj : j < k) (hj2 : j < kwL.length), kwL[j] ≠ s.data.toList) (fun _ i => 13 - (intOf i).toNat)
  case atStart => exact ⟨0, Nat.zero_le _, rfl, fun j hj => absurd hj (by omega)⟩
  case round =>
    obtain ⟨k, hk, rfl, hall0⟩ := hrel
    have hall := Lib.hid hall0
    clear hall0
    by_cases hlt : k < 13
    · have hk2 : k < kwL.length := hlt
      have hix : ∀ w, (Instr.index 85 (.agg kwC) (.int .i64 k)).run Tryz.prog w = .ok (.string ⟨(kwL[k]).toArray⟩) w := fun w => index_tab kwL k hk2 w Tryz.underlying85 rfl
      generalize hx : kwL[k] = x at hix
      have hx := Lib.hid hx
      go_wp2
      · have h1 : (s.toList == x) = true := by assumption
        go_ret
        exact ⟨ret_bool (isKw_at _ k hk2 (hx.out.trans (seq_true h1))).symm, rfl⟩
      · have h1 : (s.toList == x) = false := by assumption
        go_round
        case rel => exact ⟨k + 1, by omega, by go_num, fun j hj hj2 => by
          by_cases e : j = k
          · subst e; rw [hx.out]; exact seq_false h1
          · exact hall.out j (by omega) hj2⟩
        case measure => simp [intOf]; omega
    · go_wp2
      go_ret
      exact ⟨ret_bool (isKw_no _ (fun j hj => hall.out j (by have : kwL.length = 13 := rfl; omega) hj)).symm, rfl⟩
end Go.Proofs.YtkbplcfehllbjaaGreatDoor
/-
  DERIVED: THE SHELF's CONTRACTS AT THIS DUMP, IN PLAIN WORDS (tools/lay-plain.mjs out of 'TryzShelf.lean', which tools/lay-shelf.mjs wrote): THE SAME DECLARATIONS UNDER THE SAME NAMES: 'import', 'namespace', 'open', 'def', 'theorem' AND NOTHING ELSE: no command of the shelf's: FOR A HAND-IN. Each laying: the table of numbers ('.._ren') and one theorem, a field a fact of the dump's own or the kernel's comparison; each contract: ONE APPLICATION.
-/
namespace Go.Proofs
open Go.Shelf
def Tryz.lays169_ren : Go.Shelf.Ren := ⟨fun | 169 => 31 | n => n, fun | 70 => 58 | 9 => 9 | 0 => 0 | 72 => 60 | 37 => 44 | 127 => 83 | 3 => 3 | 5 => 5 | n => n, fun | n => n⟩
theorem Tryz.lays169 : Go.Proofs.Lays.n169 Tryz.prog Tryz.lays169_ren := {
  mixed := by kernel_rfl
  f169 := Tryz.func31.trans (congrArg some (by kernel_rfl))
  t0 := Tryz.underlying0
  a0 := Tryz.isAgg0
  z0 := Tryz.sizeOf0
  v0 := Tryz.zeroValue0
  t3 := Tryz.underlying3
  a3 := Tryz.isAgg3
  z3 := Tryz.sizeOf3
  v3 := Tryz.zeroValue3
  t9 := Tryz.underlying9
  a9 := Tryz.isAgg9
  z9 := Tryz.sizeOf9
  v9 := Tryz.zeroValue9
  t37 := Tryz.underlying44
  a37 := Tryz.isAgg44
  z37 := Tryz.sizeOf44
  v37 := Tryz.zeroValue44
  t70 := Tryz.underlying58
  a70 := Tryz.isAgg58
  z70 := Tryz.sizeOf58
  v70 := Tryz.zeroValue58
  t72 := Tryz.underlying60
  a72 := Tryz.isAgg60
  z72 := Tryz.sizeOf60
  v72 := Tryz.zeroValue60
  t127 := Tryz.underlying83
  a127 := Tryz.isAgg83
  z127 := Tryz.sizeOf83
  v127 := Tryz.zeroValue83 }
theorem Tryz.Builder_Extra_169 : Builder.Extra Tryz.prog Tryz.lays169_ren := {
  sizeBuilder := by kernel_rfl
  liesBuilder := by kernel_rfl
  t5 := Tryz.underlying5
  a5 := Tryz.isAgg5
  z5 := Tryz.sizeOf5
  v5 := Tryz.zeroValue5
  infoByte := by kernel_rfl
  cellsByte := by kernel_rfl
  sizeByte := by kernel_rfl
  neB5 := by decide }
open Go.RowKit in
/-- (*strings.Builder).String: "String returns the accumulated string.": OF A BUILDER THAT HOLDS AT LEAST ONE BYTE. ✋ THE MODEL FREEZES THOSE BYTES IN THE BUFFER (unsafe.String): a later write INTO them ends the model's run without an answer; a later append BEHIND them goes on. The statement's order of evaluation is drawn: one draw. (LAID: no walk: one application.) -/
theorem Tryz.Builder_String (B b : Nat) (l : List UInt8) (w : World) (h : Lib.IsBuilder 60 5 B b (Lib.byteCells l) w) (h0 : l ≠ []) :
    Calls Tryz.prog 31 #[.pointer (some ⟨b, 0, none⟩)] w fun e w' => e = .returned (.string ⟨l.toArray⟩) ∧ Below B w w' := Any.Builder_String Tryz.lays169 Tryz.Builder_Extra_169 B b l w h h0
open Go.RowKit in
/-- (*strings.Builder).String OF A BUILDER THAT HOLDS NO BYTE: the empty string. (Its buffer is nil, or a row of which it has taken nothing yet; where that row has NO capacity the model lays one new block for unsafe.SliceData's 'some address'.) One draw. (LAID: no walk: one application.) -/
theorem Tryz.Builder_String_empty (B b : Nat) (w : World) (h : Lib.IsBuilder 60 5 B b [] w) (hBw : B ≤ w.heap.size) :
    Calls Tryz.prog 31 #[.pointer (some ⟨b, 0, none⟩)] w fun e w' => e = .returned (.string ⟨#[]⟩) ∧ Below B w w' := Any.Builder_String_empty Tryz.lays169 Tryz.Builder_Extra_169 B b w h hBw
open Go.RowKit in
/-- (*strings.Builder).String: "String returns the accumulated string.": WHATEVER THE BUILDER HOLDS. (LAID: no walk: one application.) -/
theorem Tryz.Builder_String_any (B b : Nat) (l : List UInt8) (w : World) (h : Lib.IsBuilder 60 5 B b (Lib.byteCells l) w) (hBw : B ≤ w.heap.size) :
    Calls Tryz.prog 31 #[.pointer (some ⟨b, 0, none⟩)] w fun e w' => e = .returned (.string ⟨l.toArray⟩) ∧ Below B w w' := Any.Builder_String_any Tryz.lays169 Tryz.Builder_Extra_169 B b l w h hBw
open Go.RowKit in
/-- (*strings.Builder).String: "String returns the accumulated string.": OF A BUILDER THAT HOLDS AT LEAST ONE BYTE. ✋ THE MODEL FREEZES THOSE BYTES IN THE BUFFER (unsafe.String): a later write INTO them ends the model's run without an answer; a later append BEHIND them goes on. The statement's order of evaluation is drawn: one draw. THE FORM '_f': IT SAYS BESIDES THAT THE BUILDER IS A BUILDER STILL ('Lib.IsBuilderF', the same bytes): SO IT CAN BE WRITTEN ON: 'b.WriteString(b.String()[:k])'. (LAID: no walk: one application.) -/
theorem Tryz.Builder_String_f (B b : Nat) (l : List UInt8) (w : World) (h : Lib.IsBuilderF 60 5 B b (Lib.byteCells l) w) (h0 : l ≠ []) :
    Calls Tryz.prog 31 #[.pointer (some ⟨b, 0, none⟩)] w fun e w' => e = .returned (.string ⟨l.toArray⟩) ∧ (Lib.IsBuilderF 60 5 B b (Lib.byteCells l) w' ∧ Below B w w') := Any.Builder_String_f Tryz.lays169 Tryz.Builder_Extra_169 B b l w h h0
open Go.RowKit in
/-- (*strings.Builder).String OF A BUILDER THAT HOLDS NO BYTE: the empty string; THE FORM '_f': a builder still. (LAID: no walk: one application.) -/
theorem Tryz.Builder_String_empty_f (B b : Nat) (w : World) (h : Lib.IsBuilderF 60 5 B b [] w) (hBw : B ≤ w.heap.size) :
    Calls Tryz.prog 31 #[.pointer (some ⟨b, 0, none⟩)] w fun e w' => e = .returned (.string ⟨#[]⟩) ∧ (Lib.IsBuilderF 60 5 B b [] w' ∧ Below B w w') := Any.Builder_String_empty_f Tryz.lays169 Tryz.Builder_Extra_169 B b w h hBw
open Go.RowKit in
/-- (*strings.Builder).String: "String returns the accumulated string.": WHATEVER THE BUILDER HOLDS; THE FORM '_f': OF A BUILDER THAT MAY HAVE BEEN READ BEFORE; AND IT IS A BUILDER STILL, holding the same bytes: it can be written on. (LAID: no walk: one application.) -/
theorem Tryz.Builder_String_any_f (B b : Nat) (l : List UInt8) (w : World) (h : Lib.IsBuilderF 60 5 B b (Lib.byteCells l) w) (hBw : B ≤ w.heap.size) :
    Calls Tryz.prog 31 #[.pointer (some ⟨b, 0, none⟩)] w fun e w' => e = .returned (.string ⟨l.toArray⟩) ∧ (Lib.IsBuilderF 60 5 B b (Lib.byteCells l) w' ∧ Below B w w') := Any.Builder_String_any_f Tryz.lays169 Tryz.Builder_Extra_169 B b l w h hBw
open Go.RowKit in
/-- (*strings.Builder).String: "String returns the accumulated string.": OF A BUILDER THAT HOLDS AT LEAST ONE BYTE. ✋ THE MODEL FREEZES THOSE BYTES IN THE BUFFER (unsafe.String): a later write INTO them ends the model's run without an answer; a later append BEHIND them goes on. The statement's order of evaluation is drawn: one draw. THE FORM '_k': OVER 'Lib.IsBuilderF' (a builder that 'String()' may have read), AND WITH THE FRAME THAT REACHES ABOVE THE BUILDER: 'Lib.OthersKept': every block that is not b and is no row of uint8's stands as it stood: the iterator of a range among them. (LAID: no walk: one application.) -/
theorem Tryz.Builder_String_k (B b : Nat) (l : List UInt8) (w : World) (h : Lib.IsBuilderF 60 5 B b (Lib.byteCells l) w) (h0 : l ≠ []) :
    Calls Tryz.prog 31 #[.pointer (some ⟨b, 0, none⟩)] w fun e w' => e = .returned (.string ⟨l.toArray⟩) ∧ (Lib.IsBuilderF 60 5 B b (Lib.byteCells l) w' ∧ Below B w w' ∧ Lib.OthersKept 5 (some b) w w') := Any.Builder_String_k Tryz.lays169 Tryz.Builder_Extra_169 B b l w h h0
open Go.RowKit in
/-- (*strings.Builder).String OF A BUILDER THAT HOLDS NO BYTE: the empty string; THE FORM '_k': OVER 'Lib.IsBuilderF' (a builder that 'String()' may have read), AND WITH THE FRAME THAT REACHES ABOVE THE BUILDER: 'Lib.OthersKept': every block that is not b and is no row of uint8's stands as it stood: the iterator of a range among them. (LAID: no walk: one application.) -/
theorem Tryz.Builder_String_empty_k (B b : Nat) (w : World) (h : Lib.IsBuilderF 60 5 B b [] w) (hBw : B ≤ w.heap.size) :
    Calls Tryz.prog 31 #[.pointer (some ⟨b, 0, none⟩)] w fun e w' => e = .returned (.string ⟨#[]⟩) ∧ (Lib.IsBuilderF 60 5 B b [] w' ∧ Below B w w' ∧ Lib.OthersKept 5 (some b) w w') := Any.Builder_String_empty_k Tryz.lays169 Tryz.Builder_Extra_169 B b w h hBw
open Go.RowKit in
/-- (*strings.Builder).String: "String returns the accumulated string.": WHATEVER THE BUILDER HOLDS; THE FORM '_k': OVER 'Lib.IsBuilderF' (a builder that 'String()' may have read), AND WITH THE FRAME THAT REACHES ABOVE THE BUILDER: 'Lib.OthersKept': every block that is not b and is no row of uint8's stands as it stood: the iterator of a range among them. (LAID: no walk: one application.) -/
theorem Tryz.Builder_String_any_k (B b : Nat) (l : List UInt8) (w : World) (h : Lib.IsBuilderF 60 5 B b (Lib.byteCells l) w) (hBw : B ≤ w.heap.size) :
    Calls Tryz.prog 31 #[.pointer (some ⟨b, 0, none⟩)] w fun e w' => e = .returned (.string ⟨l.toArray⟩) ∧ (Lib.IsBuilderF 60 5 B b (Lib.byteCells l) w' ∧ Below B w w' ∧ Lib.OthersKept 5 (some b) w w') := Any.Builder_String_any_k Tryz.lays169 Tryz.Builder_Extra_169 B b l w h hBw
def Tryz.laysM316_ren : Go.Shelf.Ren := ⟨fun | 316 => 34 | n => n, fun | 9 => 9 | 3 => 3 | 4 => 4 | 37 => 44 | 0 => 0 | 127 => 83 | 5 => 5 | n => n, fun | n => n⟩
theorem Tryz.laysM316 : Go.Proofs.LaysM.n316 Tryz.prog Tryz.laysM316_ren := {
  mixed := by kernel_rfl
  f316 := Tryz.func34.trans (congrArg some (by kernel_rfl))
  t0 := Tryz.underlying0
  a0 := Tryz.isAgg0
  z0 := Tryz.sizeOf0
  v0 := Tryz.zeroValue0
  t3 := Tryz.underlying3
  a3 := Tryz.isAgg3
  z3 := Tryz.sizeOf3
  v3 := Tryz.zeroValue3
  t4 := Tryz.underlying4
  a4 := Tryz.isAgg4
  z4 := Tryz.sizeOf4
  v4 := Tryz.zeroValue4
  t9 := Tryz.underlying9
  a9 := Tryz.isAgg9
  z9 := Tryz.sizeOf9
  v9 := Tryz.zeroValue9
  t37 := Tryz.underlying44
  a37 := Tryz.isAgg44
  z37 := Tryz.sizeOf44
  v37 := Tryz.zeroValue44
  t127 := Tryz.underlying83
  a127 := Tryz.isAgg83
  z127 := Tryz.sizeOf83
  v127 := Tryz.zeroValue83
  t5 := Tryz.underlying5
  a5 := Tryz.isAgg5
  z5 := Tryz.sizeOf5
  v5 := Tryz.zeroValue5
  i0 := by kernel_rfl
  i3 := by kernel_rfl
  i4 := by kernel_rfl
  i5 := by kernel_rfl
  i9 := by kernel_rfl
  i37 := by kernel_rfl
  i127 := by kernel_rfl }
open Go.RowKit in
/-- internal/stringslite.Clone (what strings.Clone calls): "Clone returns a fresh copy of s.": THE SAME BYTES. Of what was there nothing has turned (a new row is laid, and frozen, where s is not empty). (LAID: no walk: one application.) -/
theorem Tryz.stringslite_Clone (s : ByteArray) (w : World) (hlim : s.size ≤ 281474976710656) :
    Calls Tryz.prog 34 #[.string s] w fun e w' => e = .returned (.string s) ∧ Below w.heap.size w w' := Any.stringslite_Clone Tryz.laysM316 s w hlim
def Tryz.lays217_ren : Go.Shelf.Ren := ⟨fun | 217 => 59 | 266 => 81 | n => n, fun | 9 => 9 | 5 => 5 | 3 => 3 | n => n, fun | n => n⟩
theorem Tryz.lays217 : Go.Proofs.Lays.n217 Tryz.prog Tryz.lays217_ren := {
  mixed := by kernel_rfl
  f217 := Tryz.func59.trans (congrArg some (by kernel_rfl))
  f266 := Tryz.func81.trans (congrArg some (by kernel_rfl))
  t3 := Tryz.underlying3
  a3 := Tryz.isAgg3
  z3 := Tryz.sizeOf3
  v3 := Tryz.zeroValue3
  t5 := Tryz.underlying5
  a5 := Tryz.isAgg5
  z5 := Tryz.sizeOf5
  v5 := Tryz.zeroValue5
  t9 := Tryz.underlying9
  a9 := Tryz.isAgg9
  z9 := Tryz.sizeOf9
  v9 := Tryz.zeroValue9 }
open Go.RowKit Go.Lib in
/-- internal/stringslite.IndexByte (what strings.IndexByte calls): IT RETURNS 'Lib.indexByte s c'; the world is as it was. (LAID: no walk: one application.) -/
theorem Tryz.stringslite_IndexByte (s : ByteArray) (c : Int) (w : World) :
    Calls Tryz.prog 59 #[.string s, .int .u8 c] w fun e w' => e = .returned (.int .i64 (Lib.indexByte s.data.toList c.toNat.toUInt8)) ∧ w' = w := Any.stringslite_IndexByte Tryz.lays217 s c w
def Tryz.lays224_ren : Go.Shelf.Ren := ⟨fun | 224 => 61 | n => n, fun | 3 => 3 | n => n, fun | n => n⟩
theorem Tryz.lays224 : Go.Proofs.Lays.n224 Tryz.prog Tryz.lays224_ren := {
  mixed := by kernel_rfl
  f224 := Tryz.func61.trans (congrArg some (by kernel_rfl))
  t3 := Tryz.underlying3
  a3 := Tryz.isAgg3
  z3 := Tryz.sizeOf3
  v3 := Tryz.zeroValue3 }
open Go.RowKit Go.Lib in
/-- internal/bytealg.Cutover: "Cutover reports the number of failures of IndexByte we should tolerate before switching over to Index. n is the number of bytes processed so far.": on amd64: (n + 16) / 8. (LAID: no walk: one application.) -/
theorem Tryz.bytealg_Cutover (n : Int) (h0 : 0 ≤ n) (h1 : n < 4611686018427387904) (w : World) :
    Calls Tryz.prog 61 #[.int .i64 n] w fun e w' => e = .returned (.int .i64 ((n + 16) / 8)) ∧ w' = w := Any.bytealg_Cutover Tryz.lays224 n h0 h1 w
def Tryz.lays314_ren : Go.Shelf.Ren := ⟨fun | 314 => 82 | n => n, fun | 9 => 9 | 51 => 108 | 3 => 3 | 4 => 4 | 5 => 5 | 46 => 96 | n => n, fun | n => n⟩
theorem Tryz.lays314 : Go.Proofs.Lays.n314 Tryz.prog Tryz.lays314_ren := {
  mixed := by kernel_rfl
  f314 := Tryz.func82.trans (congrArg some (by kernel_rfl))
  t3 := Tryz.underlying3
  a3 := Tryz.isAgg3
  z3 := Tryz.sizeOf3
  v3 := Tryz.zeroValue3
  t4 := Tryz.underlying4
  a4 := Tryz.isAgg4
  z4 := Tryz.sizeOf4
  v4 := Tryz.zeroValue4
  t5 := Tryz.underlying5
  a5 := Tryz.isAgg5
  z5 := Tryz.sizeOf5
  v5 := Tryz.zeroValue5
  t9 := Tryz.underlying9
  a9 := Tryz.isAgg9
  z9 := Tryz.sizeOf9
  v9 := Tryz.zeroValue9
  t46 := Tryz.underlying96
  a46 := Tryz.isAgg96
  z46 := Tryz.sizeOf96
  v46 := Tryz.zeroValue96
  t51 := Tryz.underlying108
  a51 := Tryz.isAgg108
  z51 := Tryz.sizeOf108
  v51 := Tryz.zeroValue108 }
open Go.RowKit Go.Lib in
/-- hashStr: "returns the hash and the appropriate multiplicative factor for use in Rabin-Karp algorithm": THE HASH OF ALL OF sep, AND 16777619 ^ len(sep), both in uint32. (LAID: no walk: one application.) -/
theorem Tryz.bytealg_hashStr (sep : ByteArray) (hs : sep.size < 4294967281) (w : World) :
    Calls Tryz.prog 82 #[.string sep] w fun e w' => e = .returned (.tuple #[.int .u32 (RK.H sep.data.toList % 4294967296), .int .u32 (16777619 ^ sep.size % 4294967296)]) ∧ w' = w := Any.bytealg_hashStr Tryz.lays314 sep hs w
def Tryz.lays267_ren : Go.Shelf.Ren := ⟨fun | 267 => 62 | 314 => 82 | n => n, fun | 9 => 9 | 3 => 3 | 146 => 109 | 51 => 108 | 4 => 4 | 5 => 5 | 46 => 96 | n => n, fun | n => n⟩
theorem Tryz.lays267 : Go.Proofs.Lays.n267 Tryz.prog Tryz.lays267_ren := {
  mixed := by kernel_rfl
  f267 := Tryz.func62.trans (congrArg some (by kernel_rfl))
  f314 := Tryz.func82.trans (congrArg some (by kernel_rfl))
  t3 := Tryz.underlying3
  a3 := Tryz.isAgg3
  z3 := Tryz.sizeOf3
  v3 := Tryz.zeroValue3
  t4 := Tryz.underlying4
  a4 := Tryz.isAgg4
  z4 := Tryz.sizeOf4
  v4 := Tryz.zeroValue4
  t5 := Tryz.underlying5
  a5 := Tryz.isAgg5
  z5 := Tryz.sizeOf5
  v5 := Tryz.zeroValue5
  t9 := Tryz.underlying9
  a9 := Tryz.isAgg9
  z9 := Tryz.sizeOf9
  v9 := Tryz.zeroValue9
  t46 := Tryz.underlying96
  a46 := Tryz.isAgg96
  z46 := Tryz.sizeOf96
  v46 := Tryz.zeroValue96
  t51 := Tryz.underlying108
  a51 := Tryz.isAgg108
  z51 := Tryz.sizeOf108
  v51 := Tryz.zeroValue108
  t146 := Tryz.underlying109
  a146 := Tryz.isAgg109
  z146 := Tryz.sizeOf109
  v146 := Tryz.zeroValue109 }
open Go.RowKit Go.Lib in
theorem Tryz.bytealg_IndexRabinKarp (s sep : ByteArray) (h1 : 1 ≤ sep.size) (h2 : sep.size ≤ s.size) (hs : s.size < 4294967281) (w : World) :
    Calls Tryz.prog 62 #[.string s, .string sep] w fun e w' => e = .returned (.int .i64 (Lib.index s.data.toList sep.data.toList)) ∧ w' = w := Any.bytealg_IndexRabinKarp Tryz.lays267 s sep h1 h2 hs w
def Tryz.lays219_ren : Go.Shelf.Ren := ⟨fun | 219 => 46 | 217 => 59 | 225 => 60 | 224 => 61 | 267 => 62 | 266 => 81 | 314 => 82 | n => n, fun | 9 => 9 | 3 => 3 | 4 => 4 | 5 => 5 | 46 => 96 | 146 => 109 | 51 => 108 | n => n, fun | 1 => 2 | n => n⟩
theorem Tryz.lays219 : Go.Proofs.Lays.n219 Tryz.prog Tryz.lays219_ren := {
  mixed := by kernel_rfl
  f217 := Tryz.func59.trans (congrArg some (by kernel_rfl))
  f219 := Tryz.func46.trans (congrArg some (by kernel_rfl))
  f224 := Tryz.func61.trans (congrArg some (by kernel_rfl))
  f225 := Tryz.func60.trans (congrArg some (by kernel_rfl))
  f266 := Tryz.func81.trans (congrArg some (by kernel_rfl))
  f267 := Tryz.func62.trans (congrArg some (by kernel_rfl))
  f314 := Tryz.func82.trans (congrArg some (by kernel_rfl))
  t3 := Tryz.underlying3
  a3 := Tryz.isAgg3
  z3 := Tryz.sizeOf3
  v3 := Tryz.zeroValue3
  t4 := Tryz.underlying4
  a4 := Tryz.isAgg4
  z4 := Tryz.sizeOf4
  v4 := Tryz.zeroValue4
  t5 := Tryz.underlying5
  a5 := Tryz.isAgg5
  z5 := Tryz.sizeOf5
  v5 := Tryz.zeroValue5
  t9 := Tryz.underlying9
  a9 := Tryz.isAgg9
  z9 := Tryz.sizeOf9
  v9 := Tryz.zeroValue9
  t46 := Tryz.underlying96
  a46 := Tryz.isAgg96
  z46 := Tryz.sizeOf96
  v46 := Tryz.zeroValue96
  t51 := Tryz.underlying108
  a51 := Tryz.isAgg108
  z51 := Tryz.sizeOf108
  v51 := Tryz.zeroValue108
  t146 := Tryz.underlying109
  a146 := Tryz.isAgg109
  z146 := Tryz.sizeOf109
  v146 := Tryz.zeroValue109
  g1 := by kernel_rfl }
open Go.RowKit Go.Lib in
/-- internal/stringslite.Index (what strings.Index calls) AT A substr OF ONE BYTE c: IT RETURNS 'Lib.indexByte s c'; the world is as it was. (LAID: no walk: one application.) -/
theorem Tryz.stringslite_Index_one (s : ByteArray) (c : UInt8) (w : World) :
    Calls Tryz.prog 46 #[.string s, .string ⟨#[c]⟩] w fun e w' => e = .returned (.int .i64 (Lib.indexByte s.data.toList c)) ∧ w' = w := Any.stringslite_Index_one Tryz.lays219 s c w
open Go.RowKit Go.Lib in
/-- internal/stringslite.Index (what strings.Index calls) AT A substr OF WHATEVER LENGTH: IT RETURNS 'Lib.index s substr'; the world is as it was. 'm': what internal/bytealg.MaxLen holds: whatever. (LAID: no walk: one application.) -/
theorem Tryz.stringslite_Index (s sub : ByteArray) (m : Int) (w : World) (hs : s.size < 4294967281) (hm : w.cell? ⟨2, 0, none⟩ = some (.int .i64 m)) :
    Calls Tryz.prog 46 #[.string s, .string sub] w fun e w' => e = .returned (.int .i64 (Lib.index s.data.toList sub.data.toList)) ∧ w' = w := Any.stringslite_Index Tryz.lays219 s sub m w hs hm
def Tryz.lays143_ren : Go.Shelf.Ren := ⟨fun | 143 => 36 | 219 => 46 | 217 => 59 | 225 => 60 | 224 => 61 | 267 => 62 | 266 => 81 | 314 => 82 | n => n, fun | 9 => 9 | 3 => 3 | 4 => 4 | 5 => 5 | 46 => 96 | 146 => 109 | 51 => 108 | n => n, fun | 1 => 2 | n => n⟩
theorem Tryz.lays143 : Go.Proofs.Lays.n143 Tryz.prog Tryz.lays143_ren := {
  mixed := by kernel_rfl
  f143 := Tryz.func36.trans (congrArg some (by kernel_rfl))
  f217 := Tryz.func59.trans (congrArg some (by kernel_rfl))
  f219 := Tryz.func46.trans (congrArg some (by kernel_rfl))
  f224 := Tryz.func61.trans (congrArg some (by kernel_rfl))
  f225 := Tryz.func60.trans (congrArg some (by kernel_rfl))
  f266 := Tryz.func81.trans (congrArg some (by kernel_rfl))
  f267 := Tryz.func62.trans (congrArg some (by kernel_rfl))
  f314 := Tryz.func82.trans (congrArg some (by kernel_rfl))
  t3 := Tryz.underlying3
  a3 := Tryz.isAgg3
  z3 := Tryz.sizeOf3
  v3 := Tryz.zeroValue3
  t4 := Tryz.underlying4
  a4 := Tryz.isAgg4
  z4 := Tryz.sizeOf4
  v4 := Tryz.zeroValue4
  t5 := Tryz.underlying5
  a5 := Tryz.isAgg5
  z5 := Tryz.sizeOf5
  v5 := Tryz.zeroValue5
  t9 := Tryz.underlying9
  a9 := Tryz.isAgg9
  z9 := Tryz.sizeOf9
  v9 := Tryz.zeroValue9
  t46 := Tryz.underlying96
  a46 := Tryz.isAgg96
  z46 := Tryz.sizeOf96
  v46 := Tryz.zeroValue96
  t51 := Tryz.underlying108
  a51 := Tryz.isAgg108
  z51 := Tryz.sizeOf108
  v51 := Tryz.zeroValue108
  t146 := Tryz.underlying109
  a146 := Tryz.isAgg109
  z146 := Tryz.sizeOf109
  v146 := Tryz.zeroValue109
  g1 := by kernel_rfl }
open Go.RowKit Go.Lib in
/-- strings.Index: "Index returns the index of the first instance of substr in s, or -1 if substr is not present in s.": AT A substr OF ONE BYTE c: IT RETURNS 'Lib.indexByte s c'; the world is as it was. (LAID: no walk: one application.) -/
theorem Tryz.strings_Index_one (s : ByteArray) (c : UInt8) (w : World) :
    Calls Tryz.prog 36 #[.string s, .string ⟨#[c]⟩] w fun e w' => e = .returned (.int .i64 (Lib.indexByte s.data.toList c)) ∧ w' = w := Any.strings_Index_one Tryz.lays143 s c w
open Go.RowKit Go.Lib in
/-- strings.Index: "Index returns the index of the first instance of substr in s, or -1 if substr is not present in s.": IT RETURNS 'Lib.index s substr'; the world is as it was. (LAID: no walk: one application.) -/
theorem Tryz.strings_Index (s sub : ByteArray) (m : Int) (w : World) (hs : s.size < 4294967281) (hm : w.cell? ⟨2, 0, none⟩ = some (.int .i64 m)) :
    Calls Tryz.prog 36 #[.string s, .string sub] w fun e w' => e = .returned (.int .i64 (Lib.index s.data.toList sub.data.toList)) ∧ w' = w := Any.strings_Index Tryz.lays143 s sub m w hs hm
def Tryz.laysM219_ren : Go.Shelf.Ren := ⟨fun | 219 => 46 | 217 => 59 | 225 => 60 | 224 => 61 | 267 => 62 | 266 => 81 | 314 => 82 | n => n, fun | 9 => 9 | 3 => 3 | 4 => 4 | 5 => 5 | 46 => 96 | 146 => 109 | 51 => 108 | n => n, fun | 1 => 2 | n => n⟩
theorem Tryz.laysM219 : Go.Proofs.LaysM.n219 Tryz.prog Tryz.laysM219_ren := {
  mixed := by kernel_rfl
  f217 := Tryz.func59.trans (congrArg some (by kernel_rfl))
  f219 := Tryz.func46.trans (congrArg some (by kernel_rfl))
  f224 := Tryz.func61.trans (congrArg some (by kernel_rfl))
  f225 := Tryz.func60.trans (congrArg some (by kernel_rfl))
  f266 := Tryz.func81.trans (congrArg some (by kernel_rfl))
  f267 := Tryz.func62.trans (congrArg some (by kernel_rfl))
  f314 := Tryz.func82.trans (congrArg some (by kernel_rfl))
  t3 := Tryz.underlying3
  a3 := Tryz.isAgg3
  z3 := Tryz.sizeOf3
  v3 := Tryz.zeroValue3
  t4 := Tryz.underlying4
  a4 := Tryz.isAgg4
  z4 := Tryz.sizeOf4
  v4 := Tryz.zeroValue4
  t5 := Tryz.underlying5
  a5 := Tryz.isAgg5
  z5 := Tryz.sizeOf5
  v5 := Tryz.zeroValue5
  t9 := Tryz.underlying9
  a9 := Tryz.isAgg9
  z9 := Tryz.sizeOf9
  v9 := Tryz.zeroValue9
  t46 := Tryz.underlying96
  a46 := Tryz.isAgg96
  z46 := Tryz.sizeOf96
  v46 := Tryz.zeroValue96
  t51 := Tryz.underlying108
  a51 := Tryz.isAgg108
  z51 := Tryz.sizeOf108
  v51 := Tryz.zeroValue108
  t146 := Tryz.underlying109
  a146 := Tryz.isAgg109
  z146 := Tryz.sizeOf109
  v146 := Tryz.zeroValue109
  g1 := by kernel_rfl
  i3 := by kernel_rfl
  i4 := by kernel_rfl
  i5 := by kernel_rfl
  i9 := by kernel_rfl
  i46 := by kernel_rfl
  i51 := by kernel_rfl
  i146 := by kernel_rfl
  m1 := by kernel_rfl
  s1_3 := fun w h => Go.Proofs.cell_of_shapedOpen_int (zero := #[.int .i64 0]) (t := 3) h (of_decide_eq_true (by kernel_rfl)) (by kernel_rfl) rfl (by kernel_rfl) (by kernel_rfl) Tryz.underlying3 }
open Go.RowKit Go.Lib in
theorem Tryz.stringslite_Index_shaped (s sub : ByteArray) (w : World) (h : w.ShapedOpen Tryz.prog) (hs : s.size < 4294967281) :
    Calls Tryz.prog 46 #[.string s, .string sub] w fun e w' => e = .returned (.int .i64 (Lib.index s.data.toList sub.data.toList)) ∧ w' = w := Any.stringslite_Index_shaped Tryz.laysM219 s sub w h hs
def Tryz.laysM143_ren : Go.Shelf.Ren := ⟨fun | 143 => 36 | 219 => 46 | 217 => 59 | 225 => 60 | 224 => 61 | 267 => 62 | 266 => 81 | 314 => 82 | n => n, fun | 9 => 9 | 3 => 3 | 4 => 4 | 5 => 5 | 46 => 96 | 146 => 109 | 51 => 108 | n => n, fun | 1 => 2 | n => n⟩
theorem Tryz.laysM143 : Go.Proofs.LaysM.n143 Tryz.prog Tryz.laysM143_ren := {
  mixed := by kernel_rfl
  f143 := Tryz.func36.trans (congrArg some (by kernel_rfl))
  f217 := Tryz.func59.trans (congrArg some (by kernel_rfl))
  f219 := Tryz.func46.trans (congrArg some (by kernel_rfl))
  f224 := Tryz.func61.trans (congrArg some (by kernel_rfl))
  f225 := Tryz.func60.trans (congrArg some (by kernel_rfl))
  f266 := Tryz.func81.trans (congrArg some (by kernel_rfl))
  f267 := Tryz.func62.trans (congrArg some (by kernel_rfl))
  f314 := Tryz.func82.trans (congrArg some (by kernel_rfl))
  t3 := Tryz.underlying3
  a3 := Tryz.isAgg3
  z3 := Tryz.sizeOf3
  v3 := Tryz.zeroValue3
  t4 := Tryz.underlying4
  a4 := Tryz.isAgg4
  z4 := Tryz.sizeOf4
  v4 := Tryz.zeroValue4
  t5 := Tryz.underlying5
  a5 := Tryz.isAgg5
  z5 := Tryz.sizeOf5
  v5 := Tryz.zeroValue5
  t9 := Tryz.underlying9
  a9 := Tryz.isAgg9
  z9 := Tryz.sizeOf9
  v9 := Tryz.zeroValue9
  t46 := Tryz.underlying96
  a46 := Tryz.isAgg96
  z46 := Tryz.sizeOf96
  v46 := Tryz.zeroValue96
  t51 := Tryz.underlying108
  a51 := Tryz.isAgg108
  z51 := Tryz.sizeOf108
  v51 := Tryz.zeroValue108
  t146 := Tryz.underlying109
  a146 := Tryz.isAgg109
  z146 := Tryz.sizeOf109
  v146 := Tryz.zeroValue109
  g1 := by kernel_rfl
  i3 := by kernel_rfl
  i4 := by kernel_rfl
  i5 := by kernel_rfl
  i9 := by kernel_rfl
  i46 := by kernel_rfl
  i51 := by kernel_rfl
  i146 := by kernel_rfl
  m1 := by kernel_rfl
  s1_3 := fun w h => Go.Proofs.cell_of_shapedOpen_int (zero := #[.int .i64 0]) (t := 3) h (of_decide_eq_true (by kernel_rfl)) (by kernel_rfl) rfl (by kernel_rfl) (by kernel_rfl) Tryz.underlying3 }
open Go.RowKit Go.Lib in
theorem Tryz.strings_Index_shaped (s sub : ByteArray) (w : World) (h : w.ShapedOpen Tryz.prog) (hs : s.size < 4294967281) :
    Calls Tryz.prog 36 #[.string s, .string sub] w fun e w' => e = .returned (.int .i64 (Lib.index s.data.toList sub.data.toList)) ∧ w' = w := Any.strings_Index_shaped Tryz.laysM143 s sub w h hs
def Tryz.lays206_ren : Go.Shelf.Ren := ⟨fun | 206 => 35 | n => n, fun | 9 => 9 | 4 => 4 | 3 => 3 | n => n, fun | n => n⟩
theorem Tryz.lays206 : Go.Proofs.Lays.n206 Tryz.prog Tryz.lays206_ren := {
  mixed := by kernel_rfl
  f206 := Tryz.func35.trans (congrArg some (by kernel_rfl))
  t3 := Tryz.underlying3
  a3 := Tryz.isAgg3
  z3 := Tryz.sizeOf3
  v3 := Tryz.zeroValue3
  t4 := Tryz.underlying4
  a4 := Tryz.isAgg4
  z4 := Tryz.sizeOf4
  v4 := Tryz.zeroValue4
  t9 := Tryz.underlying9
  a9 := Tryz.isAgg9
  z9 := Tryz.sizeOf9
  v9 := Tryz.zeroValue9 }
open Go.RowKit Go.Lib in
/-- internal/stringslite.HasPrefix (what strings.HasPrefix calls). (LAID: no walk: one application.) -/
theorem Tryz.stringslite_HasPrefix (s p : ByteArray) (w : World) :
    Calls Tryz.prog 35 #[.string s, .string p] w fun e w' => e = .returned (.bool (Lib.hasPrefix s.data.toList p.data.toList)) ∧ w' = w := Any.stringslite_HasPrefix Tryz.lays206 s p w
def Tryz.lays99_ren : Go.Shelf.Ren := ⟨fun | 99 => 21 | 206 => 35 | n => n, fun | 9 => 9 | 4 => 4 | 3 => 3 | n => n, fun | n => n⟩
theorem Tryz.lays99 : Go.Proofs.Lays.n99 Tryz.prog Tryz.lays99_ren := {
  mixed := by kernel_rfl
  f99 := Tryz.func21.trans (congrArg some (by kernel_rfl))
  f206 := Tryz.func35.trans (congrArg some (by kernel_rfl))
  t3 := Tryz.underlying3
  a3 := Tryz.isAgg3
  z3 := Tryz.sizeOf3
  v3 := Tryz.zeroValue3
  t4 := Tryz.underlying4
  a4 := Tryz.isAgg4
  z4 := Tryz.sizeOf4
  v4 := Tryz.zeroValue4
  t9 := Tryz.underlying9
  a9 := Tryz.isAgg9
  z9 := Tryz.sizeOf9
  v9 := Tryz.zeroValue9 }
open Go.RowKit Go.Lib in
/-- strings.HasPrefix: "HasPrefix reports whether the string s begins with prefix.": IT RETURNS 'Lib.hasPrefix s prefix'; the world is as it was. (LAID: no walk: one application.) -/
theorem Tryz.strings_HasPrefix (s p : ByteArray) (w : World) :
    Calls Tryz.prog 21 #[.string s, .string p] w fun e w' => e = .returned (.bool (Lib.hasPrefix s.data.toList p.data.toList)) ∧ w' = w := Any.strings_HasPrefix Tryz.lays99 s p w
end Go.Proofs
/- Plain: what lex makes of the bytes at one place: a word, a number, a character, a sign, a comment. -/
namespace Go.Proofs.YtkbplcfehllbjaaGreatDoor
/-- A token's kind, its length, its number; an error's number. -/
structure Tk where
  kind : Int
  len : Nat
  val : Int
  err : Int
deriving DecidableEq
def Tk.bad (e : Int) : Tk := ⟨0, 0, 0, e⟩
def hexD (l : List UInt8) : Nat := if Lib.hasPrefix l [48, 120] = true then min (pfx isHx (l.drop 2)) 16 else 0
def isName (l : List UInt8) : Bool := l ≠ [] && decide (l.length ≤ 24) && !isDig ((l.headD 0).toNat : Nat) && decide (pfx isWb l = l.length) && !isKw l
def wordR (l : List UInt8) : Tk := if 24 < pfx isWb l then Tk.bad 5 else if isKw (l.take (pfx isWb l)) = true then ⟨2, pfx isWb l, 0, 0⟩ else ⟨1, pfx isWb l, 0, 0⟩
def charR (l : List UInt8) : Tk := match l with
  | _ :: b :: c :: _ => if c = 39 ∧ isPl b.toNat = true then ⟨3, 3, b.toNat, 0⟩ else Tk.bad 2
  | _ => Tk.bad 2
def digV (c : Nat) : Nat := if c ≤ 57 then c - 48 else if 97 ≤ c then c - 97 + 10 else c - 65 + 10
def valN (base : Nat) (l : List UInt8) : Nat := l.foldl (fun n b => n * base + digV b.toNat) 0
structure Sp where
  start : Nat
  stop : Nat
  base : Nat
def spanR (l : List UInt8) : Sp := if l.headD 0 ≠ 48 then ⟨0, pfx isDig l, 10⟩ else if 0 < hexD l then ⟨2, 2 + hexD l, 16⟩ else ⟨0, 1, 10⟩
def numberR (l : List UInt8) : Tk :=
  if (spanR l).stop < l.length ∧ isWb ((l.getD (spanR l).stop 0).toNat : Nat) = true then Tk.bad 2
  else if 9223372036854775808 ≤ valN (spanR l).base ((l.take (spanR l).stop).drop (spanR l).start) then Tk.bad 5
  else ⟨3, (spanR l).stop, valN (spanR l).base ((l.take (spanR l).stop).drop (spanR l).start), 0⟩
def signR (l : List UInt8) : Tk := match opL.find? (fun o => Lib.hasPrefix l o) with
  | some o => ⟨4, o.length, 0, 0⟩
  | none => Tk.bad 2
end Go.Proofs.YtkbplcfehllbjaaGreatDoor
/- hexDigits, Name, word. -/
namespace Go.Proofs.YtkbplcfehllbjaaGreatDoor
open Go.RowKit
theorem hp_is (b : Bool) (s p : ByteArray) (w : World) (h : Lib.hasPrefix s.data.toList p.data.toList = b) :
    Calls Tryz.prog 21 #[.string s, .string p] w fun e w' => e = .returned (.bool b) ∧ w = w' :=
  (Tryz.strings_HasPrefix s p w).mono fun _ _ ⟨he, hw⟩ => ⟨by rw [he, h], hw.symm⟩
theorem hp_len {l p : List UInt8} (h : Lib.hasPrefix l p = true) : p.length ≤ l.length := by
  unfold Lib.hasPrefix at h
  exact (List.isPrefixOf_iff_prefix.1 h).length_le
theorem ext_drop (s : ByteArray) (a : Nat) : (s.extract a s.size).data.toList = s.data.toList.drop a := Lib.extract_to_end s a
theorem ext_take (s : ByteArray) (n : Nat) : (s.extract 0 n).data.toList = s.data.toList.take n := by
  simp
theorem ext_size (s : ByteArray) (a : Nat) : (s.extract a s.size).size = s.size - a := by simp
set_option maxHeartbeats 400000 in
theorem hexDigits_any (s : ByteArray) (w : World) (hs : s.size ≤ maxLen) :
    Calls Tryz.prog 40 #[.string s] w fun e w' => e = .returned (.int .i64 (hexD s.data.toList : Nat)) ∧ w = w' := by
  unfold maxLen at hs
  cases hp : Lib.hasPrefix s.data.toList [48, 120] with
  | false =>
    have hp' := Lib.hid hp
    clear hp
    go_enter Tryz.func40, Tryz.ntmps40
    go_wp2_with fail
    refine (hp_is false _ _ _ hp'.out).mono ?_
    rintro e w' ⟨rfl, rfl⟩
    go_wp2_with fail
    go_ret
    exact ⟨ret_int (by simp [hexD, hp'.out]), rfl⟩
  | true =>
    have hl : 2 ≤ s.size := by have := hp_len hp; simpa using this
    have hp' := Lib.hid hp
    clear hp
    go_enter Tryz.func40, Tryz.ntmps40
    go_wp2_with fail
    refine (hp_is true _ _ _ hp'.out).mono ?_
    rintro e w' ⟨rfl, rfl⟩
    go_wp2_with fail
    refine (prefix_hx _ _ (by rw [ext_size]; unfold maxLen; omega)).mono ?_
    rintro e w' ⟨rfl, rfl⟩
    rw [ext_drop]
    go_wp2_with fail
    all_goals go_ret
    all_goals exact ⟨ret_int (by simp [hexD, hp'.out]; try omega), rfl⟩
theorem size_zero {s : ByteArray} (h : s.size = 0) : s.data.toList = [] := by
  apply List.eq_nil_of_length_eq_zero; simpa using h
theorem headD_bytes (s : ByteArray) (h : 0 < s.size) : s.data.toList.headD 0 = s[0] := by
  rw [List.headD_eq_head?_getD, List.head?_eq_getElem?, List.getElem?_eq_getElem (by simpa using h)]; rfl
theorem isName_len {l : List UInt8} (h : 24 < l.length) : isName l = false := by
  have : decide (l.length ≤ 24) = false := by simp; omega
  simp [isName, this]
theorem isName_dig {l : List UInt8} (h : isDig ((l.headD 0).toNat : Nat) = true) : isName l = false := by
  simp only [isName, h]; simp
theorem isName_pfx {l : List UInt8} (h : pfx isWb l ≠ l.length) : isName l = false := by
  simp [isName, h]
theorem isName_kw {l : List UInt8} (h : isKw l = true) : isName l = false := by
  simp [isName, h]
theorem isName_yes {l : List UInt8} (h0 : 0 < l.length) (h1 : l.length ≤ 24) (h2 : isDig ((l.headD 0).toNat : Nat) = false) (h3 : pfx isWb l = l.length) (h4 : isKw l = false) : isName l = true := by
  have : l ≠ [] := by intro e; subst e; simp at h0
  simp only [isName, h2, h3, h4]; simp [this, h1]
end Go.Proofs.YtkbplcfehllbjaaGreatDoor
/- word, character, sign, comment. -/
namespace Go.Proofs.YtkbplcfehllbjaaGreatDoor
open Go.RowKit
/-- the token of kind k, whose text is the first n bytes of s. -/
def tokV (s : ByteArray) (t : Tk) : Value := .tuple #[.agg #[.int .i64 t.kind, .int .i64 0, .string (s.extract 0 t.len), .int .i64 t.val], .int .i64 t.err]
theorem tokV_bad (s : ByteArray) (e : Int) : tokV s (Tk.bad e) = .tuple #[.agg #[.int .i64 0, .int .i64 0, .string ⟨#[]⟩, .int .i64 0], .int .i64 e] := by
  simp [tokV, Tk.bad]; rfl
theorem pw_is (n : Nat) (s : ByteArray) (w : World) (hs : s.size ≤ maxLen) (h : pfx isWb s.data.toList = n) :
    Calls Tryz.prog 37 #[.string s, .func (.func 38) #[] #[]] w fun e w' => e = .returned (.int .i64 n) ∧ w = w' := by
  subst h; exact prefix_wb s w hs
theorem kw_is (b : Bool) (s : ByteArray) (w : World) (hv : Vars w) (h : isKw s.data.toList = b) :
    Calls Tryz.prog 39 #[.string s] w fun e w' => e = .returned (.bool b) ∧ w = w' := by
  subst h; exact word_any s w hv
theorem Vars.alloc {w : World} (h : Vars w) (o : Obj) : Vars (w.alloc o) := h.below ((Below.refl _ _).alloc (Nat.le_refl _) o) h.size
theorem below_new {w : World} (o : Obj) : Below w.heap.size w (w.alloc o) := (Below.refl _ _).alloc (Nat.le_refl _) o
set_option maxHeartbeats 800000 in
theorem wordR_any (s : ByteArray) (w : World) (hs : s.size ≤ maxLen) (hv : Vars w) :
    Calls Tryz.prog 24 #[.string s] w fun e w' => e = .returned (tokV s (wordR s.data.toList)) ∧ Below w.heap.size w w' := by
  have hs' := hs
  unfold maxLen at hs
  have hle := pfx_le isWb s.data.toList
  rw [show s.data.toList.length = s.size by simp] at hle
  obtain ⟨n, hn⟩ : ∃ n, pfx isWb s.data.toList = n := ⟨_, rfl⟩
  have hR : wordR s.data.toList = if 24 < n then Tk.bad 5 else if isKw (s.data.toList.take n) = true then ⟨2, n, 0, 0⟩ else ⟨1, n, 0, 0⟩ := by simp only [wordR, hn]
  rw [hn] at hle
  have HN := Lib.hid hn
  have HV := Lib.hid hv
  clear hn hv
  by_cases h1 : 24 < n
  · rw [if_pos h1] at hR
    have HR := Lib.hid hR
    clear hR
    go_enter Tryz.func24, Tryz.ntmps24
    go_wp2_with fail
    refine (pw_is n _ _ hs' HN.out).mono ?_
    rintro e w' ⟨rfl, rfl⟩
    go_wp2_with fail
    exact bodyPost_ret (v := .tuple #[.agg #[.int .i64 0, .int .i64 0, .string ⟨#[]⟩, .int .i64 0], .int .i64 5]) (by simp [results, Tryz.results24, go_sem]) rfl ⟨by rw [HR.out, tokV_bad], below_new _⟩
  · rw [if_neg h1] at hR
    have hd : (s.extract 0 n).data.toList = s.data.toList.take n := ext_take _ _
    rw [← hd] at hR
    have hsz : (s.extract 0 n).size = n := by simp; omega
    cases h2 : isKw (s.extract 0 n).data.toList with
    | true =>
      rw [if_pos h2] at hR
      have HR := Lib.hid hR
      have H2 := Lib.hid h2
      clear hR hd h2
      go_enter Tryz.func24, Tryz.ntmps24
      go_wp2_with fail
      refine (pw_is n _ _ hs' HN.out).mono ?_
      rintro e w' ⟨rfl, rfl⟩
      go_wp2_with fail
      refine (kw_is true _ _ (HV.out.alloc _) H2.out).mono ?_
      rintro e w' ⟨rfl, rfl⟩
      go_wp2_with fail
      refine bodyPost_ret (v := .tuple #[.agg #[.int .i64 2, .int .i64 0, .string (s.extract 0 n), .int .i64 0], .int .i64 0]) (by simp [results, Tryz.results24, go_sem]) rfl ⟨by rw [HR.out, tokV], below_new _⟩
    | false =>
      rw [if_neg (by rw [h2]; simp)] at hR
      have HR := Lib.hid hR
      have H2 := Lib.hid h2
      clear hR hd h2
      go_enter Tryz.func24, Tryz.ntmps24
      go_wp2_with fail
      refine (pw_is n _ _ hs' HN.out).mono ?_
      rintro e w' ⟨rfl, rfl⟩
      go_wp2_with fail
      refine (kw_is false _ _ (HV.out.alloc _) H2.out).mono ?_
      rintro e w' ⟨rfl, rfl⟩
      go_wp2_with fail
      refine bodyPost_ret (v := .tuple #[.agg #[.int .i64 1, .int .i64 0, .string (s.extract 0 n), .int .i64 0], .int .i64 0]) (by simp [results, Tryz.results24, go_sem]) rfl ⟨by rw [HR.out, tokV], below_new _⟩
end Go.Proofs.YtkbplcfehllbjaaGreatDoor
/- character, sign. -/
namespace Go.Proofs.YtkbplcfehllbjaaGreatDoor
open Go.RowKit
theorem charR_short (s : ByteArray) (h : s.size < 3) : charR s.data.toList = Tk.bad 2 := by
  have : s.data.toList.length = s.size := by simp
  unfold charR
  split
  · rename_i e; rw [e] at this; simp at this; omega
  · rfl
theorem charR_list (l : List UInt8) (h : 3 ≤ l.length) : charR l = if l[2] = 39 ∧ isPl (l[1].toNat : Nat) = true then ⟨3, 3, (l[1].toNat : Nat), 0⟩ else Tk.bad 2 := by
  match l, h with
  | a :: b :: c :: r, _ => simp [charR]
  | [], hl => simp at hl
  | [a], hl => simp at hl
  | [a, b], hl => simp at hl
theorem charR_long (s : ByteArray) (h : 3 ≤ s.size) : charR s.data.toList = if s[2] = 39 ∧ isPl (s[1].toNat : Nat) = true then ⟨3, 3, (s[1].toNat : Nat), 0⟩ else Tk.bad 2 :=
  charR_list s.data.toList (by simpa using h)
set_option maxHeartbeats 800000 in
theorem charR_any (s : ByteArray) (w : World) (hs : s.size ≤ maxLen) :
    Calls Tryz.prog 27 #[.string s] w fun e w' => e = .returned (tokV s (charR s.data.toList)) ∧ Below w.heap.size w w' := by
  unfold maxLen at hs
  by_cases h1 : s.size < 3
  · have HR := Lib.hid (charR_short s h1)
    go_enter Tryz.func27, Tryz.ntmps27
    go_wp2_with fail
    exact bodyPost_ret (v := .tuple #[.agg #[.int .i64 0, .int .i64 0, .string ⟨#[]⟩, .int .i64 0], .int .i64 2]) (by simp [results, Tryz.results27, go_sem]) rfl ⟨by rw [HR.out, tokV_bad], below_new _⟩
  · have h3 : 3 ≤ s.size := by omega
    have hR := charR_long s h3
    by_cases h2 : s[2] = 39
    · have c2 : (s[2].toNat : Int) = 39 := by rw [h2]; rfl
      cases h4 : isPl (s[1].toNat : Nat) with
      | true =>
        rw [if_pos ⟨h2, h4⟩] at hR
        have HR := Lib.hid hR
        have H4 := Lib.hid h4
        clear hR h2
        go_enter Tryz.func27, Tryz.ntmps27
        go_wp2_with (go_at_call 42; refine (isPlain_any _ _).mono ?_; rintro e w' ⟨rfl, rfl⟩)
        have hsz : (s.extract 0 3).size = 3 := by simp; omega
        have hwr : wrap64 (s[1].toNat : Int) = s[1].toNat := IntWalk.wrap64_in _ ⟨by omega, by have := UInt8.toNat_lt s[1]; omega⟩
        go_region
        all_goals go_wp2
        all_goals (refine bodyPost_ret (v := .tuple #[.agg #[.int .i64 3, .int .i64 0, .string (s.extract 0 3), .int .i64 (s[1].toNat : Nat)], .int .i64 0]) ?_ rfl ⟨?_, ?_⟩)
        all_goals first | (rw [HR.out, tokV]; done) | exact (below_new _).drew | (simp [results, Tryz.results27, go_sem]; done)
      | false =>
        rw [if_neg (by rw [h4]; simp)] at hR
        have HR := Lib.hid hR
        clear hR h2
        go_enter Tryz.func27, Tryz.ntmps27
        go_wp2_with (go_at_call 42; refine (isPlain_any _ _).mono ?_; rintro e w' ⟨rfl, rfl⟩)
        all_goals exact bodyPost_ret (v := .tuple #[.agg #[.int .i64 0, .int .i64 0, .string ⟨#[]⟩, .int .i64 0], .int .i64 2]) (by simp [results, Tryz.results27, go_sem]) rfl ⟨by rw [HR.out, tokV_bad], below_new _⟩
    · have c2 : ¬ (s[2].toNat : Int) = 39 := by
        intro e; exact h2 (UInt8.toNat_inj.1 (by have : (39 : UInt8).toNat = 39 := rfl; omega))
      rw [if_neg (by simp [h2])] at hR
      have HR := Lib.hid hR
      clear hR h2
      go_enter Tryz.func27, Tryz.ntmps27
      go_wp2_with (go_at_call 42; refine (isPlain_any _ _).mono ?_; rintro e w' ⟨rfl, rfl⟩)
      all_goals exact bodyPost_ret (v := .tuple #[.agg #[.int .i64 0, .int .i64 0, .string ⟨#[]⟩, .int .i64 0], .int .i64 2]) (by simp [results, Tryz.results27, go_sem]) rfl ⟨by rw [HR.out, tokV_bad], below_new _⟩
theorem signR_at (l : List UInt8) (k : Nat) (hk : k < opL.length) (hn : ∀ j (hj : j < k), Lib.hasPrefix l (opL[j]'(by omega)) = false) (hy : Lib.hasPrefix l opL[k] = true) : signR l = ⟨4, (opL[k]).length, 0, 0⟩ := by
  have : opL.find? (fun o => Lib.hasPrefix l o) = some opL[k] := by
    rw [List.find?_eq_some_iff_getElem]
    exact ⟨hy, k, hk, rfl, fun j hj => by simpa using hn j hj⟩
  simp [signR, this]
theorem signR_no (l : List UInt8) (hn : ∀ j (hj : j < opL.length), Lib.hasPrefix l opL[j] = false) : signR l = Tk.bad 2 := by
  have : opL.find? (fun o => Lib.hasPrefix l o) = none := by
    rw [List.find?_eq_none]
    intro x hx
    obtain ⟨j, hj, rfl⟩ := List.getElem_of_mem hx
    simp [hn j hj]
  simp [signR, this]
theorem pre_take {l p : List UInt8} (h : Lib.hasPrefix l p = true) : l.take p.length = p := by
  unfold Lib.hasPrefix at h
  exact (List.prefix_iff_eq_take.1 (List.isPrefixOf_iff_prefix.1 h)).symm
theorem pre_extract {s : ByteArray} {p : List UInt8} (h : Lib.hasPrefix s.data.toList p = true) : s.extract 0 p.length = ⟨p.toArray⟩ := by
  apply ByteArray.ext
  apply Array.ext'
  have := ext_take s p.length
  rw [this, pre_take h]
set_option maxHeartbeats 800000 in
theorem signR_any (s : ByteArray) (w : World) (hv : Vars w) :
    Calls Tryz.prog 28 #[.string s] w fun e w' => e = .returned (tokV s (signR s.data.toList)) ∧ Below w.heap.size w w' := by
  obtain ⟨t, fr, hg⟩ := hv.op
  have HG : Hid (∀ o, ((w.alloc o).heap)[0]? = some (Obj.cells opC t fr)) := fun o => by
    rw [(below_new o).block 0 (by have := hv.size; omega)]; exact hg
  clear hg hv
  go_enter Tryz.func28, Tryz.ntmps28
  go_wp2_with (refine wpList_load_row rfl 82 _ rfl 0 rfl t _ fr _ (HG.out _) Tryz.underlying82 rfl (by kernel_rfl) ?_)
  go_loop [5, 7] (fun _ i => ∃ k : Nat, k ≤ 29 ∧ i = .int .i64 k ∧ ∀ j (hj : j < k) (hj2 : j < opL.length), Lib.hasPrefix s.data.toList opL[j] = false) (fun _ i => 29 - (intOf i).toNat)
  case atStart => exact ⟨0, Nat.zero_le _, rfl, fun j hj => absurd hj (by omega)⟩
  case round =>
    obtain ⟨k, hk, rfl, hall0⟩ := hrel
    have hall := Lib.hid hall0
    clear hall0
    by_cases hlt : k < 29
    · have hk2 : k < opL.length := hlt
      have hix : ∀ w, (Instr.index 82 (.agg opC) (.int .i64 k)).run Tryz.prog w = .ok (.string ⟨(opL[k]).toArray⟩) w := fun w => index_tab opL k hk2 w Tryz.underlying82 rfl
      have hb : ∃ b, Lib.hasPrefix s.data.toList opL[k] = b := ⟨_, rfl⟩
      generalize hx : opL[k] = x at hix hb
      have hx := Lib.hid hx
      obtain ⟨b, hb⟩ := hb
      have HB := Lib.hid hb
      clear hb
      cases b with
      | true =>
        go_wp2_with fail
        refine (hp_is true _ _ _ HB.out).mono ?_
        rintro e w' ⟨rfl, rfl⟩
        go_wp2_with fail
        refine bodyPost_ret (v := .tuple #[.agg #[.int .i64 4, .int .i64 0, .string ⟨x.toArray⟩, .int .i64 0], .int .i64 0]) (by simp [results, Tryz.results28, go_sem]) rfl ⟨?_, below_new _⟩
        rw [signR_at _ k hk2 (fun j hj => hall.out j hj (by omega)) (by rw [hx.out]; exact HB.out), tokV]
        simp only [hx.out]
        rw [pre_extract HB.out]
      | false =>
        go_wp2_with fail
        refine (hp_is false _ _ _ HB.out).mono ?_
        rintro e w' ⟨rfl, rfl⟩
        go_wp2_with fail
        go_round
        case rel => exact ⟨k + 1, by omega, by go_num, fun j hj hj2 => by
          by_cases e : j = k
          · subst e; rw [hx.out]; exact HB.out
          · exact hall.out j (by omega) hj2⟩
        case measure => simp [intOf]; omega
    · go_wp2_with fail
      refine bodyPost_ret (v := .tuple #[.agg #[.int .i64 0, .int .i64 0, .string ⟨#[]⟩, .int .i64 0], .int .i64 2]) (by simp [results, Tryz.results28, go_sem]) rfl ⟨?_, below_new _⟩
      rw [signR_no _ (fun j hj => hall.out j (by have : opL.length = 29 := rfl; omega) hj), tokV_bad]
end Go.Proofs.YtkbplcfehllbjaaGreatDoor
