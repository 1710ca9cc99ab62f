/- ir: what an instruction reads, in the document's words. -/
import Derived.Test.YtdknclhbnhiojaaDoorI5
namespace Go.Proofs.YtdknclhbnhiojaaDoor
open Go.RowKit
/-- What a call tells that returns the ints l, in a row of its own. -/
def RetOwn (w : World) (l : List Int) (e : Ending) (w' : World) : Prop :=
  ∃ v, e = .returned v ∧ w'.ownsRow w.heap.size 3 1 v l.length (intsV l) ∧ w.grownBy w' none
theorem RetOwn.mk {w w' : World} {l : List Int} {v : Value} (h : w'.ownsRow w.heap.size 3 1 v l.length (intsV l)) (g : w.grownBy w' none) : RetOwn w l (.returned v) w' := ⟨v, rfl, h, g⟩
theorem RetOwn.nil {w w' : World} (g : w.grownBy w' none) : RetOwn w [] (.returned (.slice none 0 0)) w' := ⟨_, rfl, own_nil _ _ _ _, g⟩
theorem RetOwn.new {w : World} (W : World) (l : List Int) (b : Nat) (cs : Array Value) (hcs : cs.toList = intsV l) (hb : b = W.heap.size) (hw : w.heap.size ≤ W.heap.size) (hl : l.length ≤ maxLen) (g : w.grownBy (W.alloc (.cells cs 3)) none) :
    RetOwn w l (.returned (.slice (some ⟨b, 0, none⟩) l.length l.length)) (W.alloc (.cells cs 3)) := by
  have hsz : cs.size = l.length := by rw [← Array.length_toList, hcs, intsV_length]
  refine ⟨_, rfl, ⟨by rw [intsV_length, Nat.mul_one], .inr ⟨b, l.length, cs, rfl, by omega, by rw [hb]; exact heap_alloc_new W _, Nat.le_refl _, hl, by omega, ?_⟩⟩, g⟩
  rw [hcs, List.take_of_length_le (by rw [intsV_length]; omega)]
theorem RetOwn.ints {w w' : World} {l : List Int} {e : Ending} (h : RetOwn w l e w') : RetInts w l e w' := by
  obtain ⟨v, rfl, ho, g⟩ := h
  obtain ⟨A, n, c, rfl, hI⟩ := IntsAt.of_own ho
  exact ⟨A, n, c, rfl, hI, g⟩
/-- The table, by op. -/
def tabR (i : Ins) : List Int :=
  if i.op = 3 ∨ i.op = 6 ∨ i.op = 7 ∨ i.op = 8 ∨ i.op = 13 then [i.b] else if i.op = 4 ∨ i.op = 5 then [i.b, i.c] else if i.op = 9 ∨ i.op = 10 then [i.a, i.b]
  else if i.op = 11 ∨ i.op = 12 then [i.a, i.b, i.c] else if i.op = 14 ∨ i.op = 18 then [i.a] else if i.op = 15 then i.args else if i.op = 16 then i.b :: i.args
  else if i.op = 19 ∧ i.a ≠ -1 then [i.a] else []
theorem readsI_tab (i : Ins) : readsI i = tabR i := by
  obtain ⟨op, a, b, c, ww, n, sign, aa, an, ac, args⟩ := i
  by_cases h : 0 ≤ op ∧ op < 21
  · rcases op_cases h.1 h.2 with rfl | rfl | rfl | rfl | rfl | rfl | rfl | rfl | rfl | rfl | rfl | rfl | rfl | rfl | rfl | rfl | rfl | rfl | rfl | rfl | rfl
    all_goals simp [readsI, readsS, rowL, rowsT, readL, tabR]
  · unfold readsI tabR
    simp only []
    rw [rowL_out h]
    repeat rw [if_neg (by omega)]
    rfl
set_option maxRecDepth 100000 in
set_option maxHeartbeats 2000000 in
theorem r8R_3 (a b c ww n : Int) (sign : ByteArray) (aa : Option Addr) (an ac : Nat) (args : List Int) (w : World)  :
    Calls Tryd.prog 11 #[insV ⟨3, a, b, c, ww, n, sign, aa, an, ac, args⟩] w fun e w' => RetOwn w [b] e w' := by
  unfold insV insC
  go_enter Tryd.func11, Tryd.ntmps11
  go_wp2_with fail
  go_ret
  exact RetOwn.new _ [b] _ _ rfl (by simp) (by simp) (by simp [maxLen]) (by repeat (first | with_reducible exact grownBy_refl _ _ | with_reducible assumption | with_reducible refine World.grownBy.gr_drew ?_ | with_reducible refine World.grownBy.gr_set ?_ (by simp) _ | with_reducible refine gr_alloc ?_ _))
set_option maxRecDepth 100000 in
set_option maxHeartbeats 2000000 in
theorem r8R_4 (a b c ww n : Int) (sign : ByteArray) (aa : Option Addr) (an ac : Nat) (args : List Int) (w : World)  :
    Calls Tryd.prog 11 #[insV ⟨4, a, b, c, ww, n, sign, aa, an, ac, args⟩] w fun e w' => RetOwn w [b, c] e w' := by
  unfold insV insC
  go_enter Tryd.func11, Tryd.ntmps11
  go_wp2_with fail
  go_ret
  exact RetOwn.new _ [b, c] _ _ rfl (by simp) (by simp) (by simp [maxLen]) (by repeat (first | with_reducible exact grownBy_refl _ _ | with_reducible assumption | with_reducible refine World.grownBy.gr_drew ?_ | with_reducible refine World.grownBy.gr_set ?_ (by simp) _ | with_reducible refine gr_alloc ?_ _))
set_option maxRecDepth 100000 in
set_option maxHeartbeats 2000000 in
theorem r8R_5 (a b c ww n : Int) (sign : ByteArray) (aa : Option Addr) (an ac : Nat) (args : List Int) (w : World)  :
    Calls Tryd.prog 11 #[insV ⟨5, a, b, c, ww, n, sign, aa, an, ac, args⟩] w fun e w' => RetOwn w [b, c] e w' := by
  unfold insV insC
  go_enter Tryd.func11, Tryd.ntmps11
  go_wp2_with fail
  go_ret
  exact RetOwn.new _ [b, c] _ _ rfl (by simp) (by simp) (by simp [maxLen]) (by repeat (first | with_reducible exact grownBy_refl _ _ | with_reducible assumption | with_reducible refine World.grownBy.gr_drew ?_ | with_reducible refine World.grownBy.gr_set ?_ (by simp) _ | with_reducible refine gr_alloc ?_ _))
set_option maxRecDepth 100000 in
set_option maxHeartbeats 2000000 in
theorem r8R_6 (a b c ww n : Int) (sign : ByteArray) (aa : Option Addr) (an ac : Nat) (args : List Int) (w : World)  :
    Calls Tryd.prog 11 #[insV ⟨6, a, b, c, ww, n, sign, aa, an, ac, args⟩] w fun e w' => RetOwn w [b] e w' := by
  unfold insV insC
  go_enter Tryd.func11, Tryd.ntmps11
  go_wp2_with fail
  go_ret
  exact RetOwn.new _ [b] _ _ rfl (by simp) (by simp) (by simp [maxLen]) (by repeat (first | with_reducible exact grownBy_refl _ _ | with_reducible assumption | with_reducible refine World.grownBy.gr_drew ?_ | with_reducible refine World.grownBy.gr_set ?_ (by simp) _ | with_reducible refine gr_alloc ?_ _))
set_option maxRecDepth 100000 in
set_option maxHeartbeats 2000000 in
theorem r8R_7 (a b c ww n : Int) (sign : ByteArray) (aa : Option Addr) (an ac : Nat) (args : List Int) (w : World)  :
    Calls Tryd.prog 11 #[insV ⟨7, a, b, c, ww, n, sign, aa, an, ac, args⟩] w fun e w' => RetOwn w [b] e w' := by
  unfold insV insC
  go_enter Tryd.func11, Tryd.ntmps11
  go_wp2_with fail
  go_ret
  exact RetOwn.new _ [b] _ _ rfl (by simp) (by simp) (by simp [maxLen]) (by repeat (first | with_reducible exact grownBy_refl _ _ | with_reducible assumption | with_reducible refine World.grownBy.gr_drew ?_ | with_reducible refine World.grownBy.gr_set ?_ (by simp) _ | with_reducible refine gr_alloc ?_ _))
set_option maxRecDepth 100000 in
set_option maxHeartbeats 2000000 in
theorem r8R_8 (a b c ww n : Int) (sign : ByteArray) (aa : Option Addr) (an ac : Nat) (args : List Int) (w : World)  :
    Calls Tryd.prog 11 #[insV ⟨8, a, b, c, ww, n, sign, aa, an, ac, args⟩] w fun e w' => RetOwn w [b] e w' := by
  unfold insV insC
  go_enter Tryd.func11, Tryd.ntmps11
  go_wp2_with fail
  go_ret
  exact RetOwn.new _ [b] _ _ rfl (by simp) (by simp) (by simp [maxLen]) (by repeat (first | with_reducible exact grownBy_refl _ _ | with_reducible assumption | with_reducible refine World.grownBy.gr_drew ?_ | with_reducible refine World.grownBy.gr_set ?_ (by simp) _ | with_reducible refine gr_alloc ?_ _))
set_option maxRecDepth 100000 in
set_option maxHeartbeats 2000000 in
theorem r8R_9 (a b c ww n : Int) (sign : ByteArray) (aa : Option Addr) (an ac : Nat) (args : List Int) (w : World)  :
    Calls Tryd.prog 11 #[insV ⟨9, a, b, c, ww, n, sign, aa, an, ac, args⟩] w fun e w' => RetOwn w [a, b] e w' := by
  unfold insV insC
  go_enter Tryd.func11, Tryd.ntmps11
  go_wp2_with fail
  go_ret
  exact RetOwn.new _ [a, b] _ _ rfl (by simp) (by simp) (by simp [maxLen]) (by repeat (first | with_reducible exact grownBy_refl _ _ | with_reducible assumption | with_reducible refine World.grownBy.gr_drew ?_ | with_reducible refine World.grownBy.gr_set ?_ (by simp) _ | with_reducible refine gr_alloc ?_ _))
set_option maxRecDepth 100000 in
set_option maxHeartbeats 2000000 in
theorem r8R_10 (a b c ww n : Int) (sign : ByteArray) (aa : Option Addr) (an ac : Nat) (args : List Int) (w : World)  :
    Calls Tryd.prog 11 #[insV ⟨10, a, b, c, ww, n, sign, aa, an, ac, args⟩] w fun e w' => RetOwn w [a, b] e w' := by
  unfold insV insC
  go_enter Tryd.func11, Tryd.ntmps11
  go_wp2_with fail
  go_ret
  exact RetOwn.new _ [a, b] _ _ rfl (by simp) (by simp) (by simp [maxLen]) (by repeat (first | with_reducible exact grownBy_refl _ _ | with_reducible assumption | with_reducible refine World.grownBy.gr_drew ?_ | with_reducible refine World.grownBy.gr_set ?_ (by simp) _ | with_reducible refine gr_alloc ?_ _))
set_option maxRecDepth 100000 in
set_option maxHeartbeats 2000000 in
theorem r8R_11 (a b c ww n : Int) (sign : ByteArray) (aa : Option Addr) (an ac : Nat) (args : List Int) (w : World)  :
    Calls Tryd.prog 11 #[insV ⟨11, a, b, c, ww, n, sign, aa, an, ac, args⟩] w fun e w' => RetOwn w [a, b, c] e w' := by
  unfold insV insC
  go_enter Tryd.func11, Tryd.ntmps11
  go_wp2_with fail
  go_ret
  exact RetOwn.new _ [a, b, c] _ _ rfl (by simp) (by simp) (by simp [maxLen]) (by repeat (first | with_reducible exact grownBy_refl _ _ | with_reducible assumption | with_reducible refine World.grownBy.gr_drew ?_ | with_reducible refine World.grownBy.gr_set ?_ (by simp) _ | with_reducible refine gr_alloc ?_ _))
set_option maxRecDepth 100000 in
set_option maxHeartbeats 2000000 in
theorem r8R_12 (a b c ww n : Int) (sign : ByteArray) (aa : Option Addr) (an ac : Nat) (args : List Int) (w : World)  :
    Calls Tryd.prog 11 #[insV ⟨12, a, b, c, ww, n, sign, aa, an, ac, args⟩] w fun e w' => RetOwn w [a, b, c] e w' := by
  unfold insV insC
  go_enter Tryd.func11, Tryd.ntmps11
  go_wp2_with fail
  go_ret
  exact RetOwn.new _ [a, b, c] _ _ rfl (by simp) (by simp) (by simp [maxLen]) (by repeat (first | with_reducible exact grownBy_refl _ _ | with_reducible assumption | with_reducible refine World.grownBy.gr_drew ?_ | with_reducible refine World.grownBy.gr_set ?_ (by simp) _ | with_reducible refine gr_alloc ?_ _))
set_option maxRecDepth 100000 in
set_option maxHeartbeats 2000000 in
theorem r8R_13 (a b c ww n : Int) (sign : ByteArray) (aa : Option Addr) (an ac : Nat) (args : List Int) (w : World)  :
    Calls Tryd.prog 11 #[insV ⟨13, a, b, c, ww, n, sign, aa, an, ac, args⟩] w fun e w' => RetOwn w [b] e w' := by
  unfold insV insC
  go_enter Tryd.func11, Tryd.ntmps11
  go_wp2_with fail
  go_ret
  exact RetOwn.new _ [b] _ _ rfl (by simp) (by simp) (by simp [maxLen]) (by repeat (first | with_reducible exact grownBy_refl _ _ | with_reducible assumption | with_reducible refine World.grownBy.gr_drew ?_ | with_reducible refine World.grownBy.gr_set ?_ (by simp) _ | with_reducible refine gr_alloc ?_ _))
set_option maxRecDepth 100000 in
set_option maxHeartbeats 2000000 in
theorem r8R_14 (a b c ww n : Int) (sign : ByteArray) (aa : Option Addr) (an ac : Nat) (args : List Int) (w : World)  :
    Calls Tryd.prog 11 #[insV ⟨14, a, b, c, ww, n, sign, aa, an, ac, args⟩] w fun e w' => RetOwn w [a] e w' := by
  unfold insV insC
  go_enter Tryd.func11, Tryd.ntmps11
  go_wp2_with fail
  go_ret
  exact RetOwn.new _ [a] _ _ rfl (by simp) (by simp) (by simp [maxLen]) (by repeat (first | with_reducible exact grownBy_refl _ _ | with_reducible assumption | with_reducible refine World.grownBy.gr_drew ?_ | with_reducible refine World.grownBy.gr_set ?_ (by simp) _ | with_reducible refine gr_alloc ?_ _))
set_option maxRecDepth 100000 in
set_option maxHeartbeats 2000000 in
theorem r8R_18 (a b c ww n : Int) (sign : ByteArray) (aa : Option Addr) (an ac : Nat) (args : List Int) (w : World)  :
    Calls Tryd.prog 11 #[insV ⟨18, a, b, c, ww, n, sign, aa, an, ac, args⟩] w fun e w' => RetOwn w [a] e w' := by
  unfold insV insC
  go_enter Tryd.func11, Tryd.ntmps11
  go_wp2_with fail
  go_ret
  exact RetOwn.new _ [a] _ _ rfl (by simp) (by simp) (by simp [maxLen]) (by repeat (first | with_reducible exact grownBy_refl _ _ | with_reducible assumption | with_reducible refine World.grownBy.gr_drew ?_ | with_reducible refine World.grownBy.gr_set ?_ (by simp) _ | with_reducible refine gr_alloc ?_ _))
set_option maxRecDepth 100000 in
set_option maxHeartbeats 2000000 in
theorem r8R_19n (a b c ww n : Int) (sign : ByteArray) (aa : Option Addr) (an ac : Nat) (args : List Int) (w : World)  :
    Calls Tryd.prog 11 #[insV ⟨19, a, b, c, ww, n, sign, aa, an, ac, args⟩] w fun e w' => RetOwn w (if a = -1 then [] else [a]) e w' := by
  unfold insV insC
  by_cases ha : a = -1
  · rw [if_pos ha]
    subst ha
    go_enter Tryd.func11, Tryd.ntmps11
    go_wp2_with fail
    go_ret
    exact RetOwn.nil (by repeat (first | with_reducible exact grownBy_refl _ _ | with_reducible assumption | with_reducible refine World.grownBy.gr_drew ?_ | with_reducible refine World.grownBy.gr_set ?_ (by simp) _ | with_reducible refine gr_alloc ?_ _))
  · rw [if_neg ha]
    have e1 : (a == -1) = false := by simpa using ha
    have e2 : (a != -1) = true := by simpa using ha
    clear ha
    go_enter Tryd.func11, Tryd.ntmps11
    go_wp2_with fail
    go_ret
    exact RetOwn.new _ [a] _ _ rfl (by simp) (by simp) (by simp [maxLen]) (by repeat (first | with_reducible exact grownBy_refl _ _ | with_reducible assumption | with_reducible refine World.grownBy.gr_drew ?_ | with_reducible refine World.grownBy.gr_set ?_ (by simp) _ | with_reducible refine gr_alloc ?_ _))
set_option maxRecDepth 100000 in
set_option maxHeartbeats 2000000 in
theorem r8R_15 (a b c ww n : Int) (sign : ByteArray) (aa : Option Addr) (an ac : Nat) (args : List Int) (w : World)  (hA : IntsAt w aa an ac args) (hlen : (0 + args.length) * 8 ≤ 140737488355328) :
    Calls Tryd.prog 11 #[insV ⟨15, a, b, c, ww, n, sign, aa, an, ac, args⟩] w fun e w' => RetOwn w args e w' := by
  have HA := Lib.hid hA
  obtain ⟨hn, hA⟩ := hA
  subst hn
  unfold insV insC
  have HG0 := Lib.hid (show w.grownBy ((w.alloc (.cells (insC ⟨15, a, b, c, ww, n, sign, aa, args.length, ac, args⟩) 24)).alloc (.cells #[] 3)) none by repeat (first | with_reducible exact grownBy_refl _ _ | with_reducible assumption | with_reducible refine World.grownBy.gr_drew ?_ | with_reducible refine World.grownBy.gr_set ?_ (by simp) _ | with_reducible refine gr_alloc ?_ _))
  unfold insC at HG0
  obtain ⟨i0, hi, hz0, hz1, hz2⟩ := info_parts info3
  rcases hA with ⟨rfl, hn, rfl⟩ | ⟨ad, rfl, hcell⟩
  · have hl0 : args = [] := List.eq_nil_of_length_eq_zero hn
    clear hn HA
    subst hl0
    go_enter Tryd.func11, Tryd.ntmps11
    go_wp2_with (at_builtin; go_must (refine wpList_append_own_none rfl (.tmp 48) (.tmp 50) 22 rfl w.heap.size 3 i0 1 Tryd.underlying22 hi _ 0 [] rfl ⟨rfl, .inr ⟨w.heap.size + 1, 0, _, rfl, by omega, by simpa using heap_alloc_new (w.alloc _) (.cells #[] 3), Nat.le_refl _, by unfold maxLen; omega, rfl, rfl⟩⟩ rfl ?_))
    clear hi hz0 hz1 hz2
    go_wp2_with fail
    go_ret
    exact RetOwn.new _ [] _ _ rfl (by simp) (by simp) (by simp [maxLen]) HG0.out
  · go_enter Tryd.func11, Tryd.ntmps11
    go_wp2_with (at_builtin; go_must (refine wpList_append_own _ rfl (.tmp 48) (.tmp 50) 22 rfl w.heap.size 3 i0 _ 1 8 Tryd.underlying22 hi hz0 hz1 hz2 rfl (by decide) _ 0 [] rfl ⟨rfl, .inr ⟨w.heap.size + 1, 0, _, rfl, by omega, by simpa using heap_alloc_new (w.alloc _) (.cells #[] 3), Nat.le_refl _, by unfold maxLen; omega, rfl, rfl⟩⟩ ad args.length ac (intsV args) rfl ?_ ?_ ?_ ?_ ?_ ?_ ?_))
    · first | rfl | (simp [intsV_length])
    · intro j u hu
      simp only [intsV, List.getElem?_map, Option.map_eq_some_iff] at hu
      obtain ⟨x, hx, rfl⟩ := hu
      exact (CellsK.of HG0.out).2 _ _ (hcell j x hx)
    · exact intsV_one args
    · unfold maxLen; omega
    · omega
    · first | omega | (simp; omega)
    intro v' w4 hown' hgrow _
    have HO4 := Lib.hid (show w4.ownsRow w.heap.size 3 1 v' (args).length (intsV args) by simpa [intsV, Nat.add_comm] using hown')
    have HG4 := Lib.hid (gr_own HG0.out hgrow (fun k hk => by simp [Value.ownBlock] at hk; omega))
    clear hown' hgrow hi hz0 hz1 hz2 hcell HA
    go_wp2_with fail
    go_ret
    exact RetOwn.mk HO4.out HG4.out
set_option maxRecDepth 100000 in
set_option maxHeartbeats 2000000 in
theorem r8R_16 (a b c ww n : Int) (sign : ByteArray) (aa : Option Addr) (an ac : Nat) (args : List Int) (w : World)  (hA : IntsAt w aa an ac args) (hlen : (1 + args.length) * 8 ≤ 140737488355328) :
    Calls Tryd.prog 11 #[insV ⟨16, a, b, c, ww, n, sign, aa, an, ac, args⟩] w fun e w' => RetOwn w (b :: args) e w' := by
  have HA := Lib.hid hA
  obtain ⟨hn, hA⟩ := hA
  subst hn
  unfold insV insC
  have HG0 := Lib.hid (show w.grownBy ((w.alloc (.cells (insC ⟨16, a, b, c, ww, n, sign, aa, args.length, ac, args⟩) 24)).alloc (.cells #[.int .i64 b] 3)) none by repeat (first | with_reducible exact grownBy_refl _ _ | with_reducible assumption | with_reducible refine World.grownBy.gr_drew ?_ | with_reducible refine World.grownBy.gr_set ?_ (by simp) _ | with_reducible refine gr_alloc ?_ _))
  unfold insC at HG0
  obtain ⟨i0, hi, hz0, hz1, hz2⟩ := info_parts info3
  rcases hA with ⟨rfl, hn, rfl⟩ | ⟨ad, rfl, hcell⟩
  · have hl0 : args = [] := List.eq_nil_of_length_eq_zero hn
    clear hn HA
    subst hl0
    go_enter Tryd.func11, Tryd.ntmps11
    go_wp2_with (at_builtin; go_must (refine wpList_append_own_none rfl (.tmp 56) (.tmp 58) 22 rfl w.heap.size 3 i0 1 Tryd.underlying22 hi _ 1 [.int .i64 b] rfl ⟨rfl, .inr ⟨w.heap.size + 1, 1, _, rfl, by omega, by simpa using heap_alloc_new (w.alloc _) (.cells #[.int .i64 b] 3), Nat.le_refl _, by unfold maxLen; omega, rfl, rfl⟩⟩ rfl ?_))
    clear hi hz0 hz1 hz2
    go_wp2_with fail
    go_ret
    exact RetOwn.new _ [b] _ _ rfl (by simp) (by simp) (by simp [maxLen]) HG0.out
  · go_enter Tryd.func11, Tryd.ntmps11
    go_wp2_with (at_builtin; go_must (refine wpList_append_own _ rfl (.tmp 56) (.tmp 58) 22 rfl w.heap.size 3 i0 _ 1 8 Tryd.underlying22 hi hz0 hz1 hz2 rfl (by decide) _ 1 [.int .i64 b] rfl ⟨rfl, .inr ⟨w.heap.size + 1, 1, _, rfl, by omega, by simpa using heap_alloc_new (w.alloc _) (.cells #[.int .i64 b] 3), Nat.le_refl _, by unfold maxLen; omega, rfl, rfl⟩⟩ ad args.length ac (intsV args) rfl ?_ ?_ ?_ ?_ ?_ ?_ ?_))
    · first | rfl | (simp [intsV_length])
    · intro j u hu
      simp only [intsV, List.getElem?_map, Option.map_eq_some_iff] at hu
      obtain ⟨x, hx, rfl⟩ := hu
      exact (CellsK.of HG0.out).2 _ _ (hcell j x hx)
    · exact intsV_one args
    · unfold maxLen; omega
    · first | omega | (simp; omega)
    intro v' w4 hown' hgrow _
    have HO4 := Lib.hid (show w4.ownsRow w.heap.size 3 1 v' ((b :: args)).length (intsV (b :: args)) by simpa [intsV, Nat.add_comm] using hown')
    have HG4 := Lib.hid (gr_own HG0.out hgrow (fun k hk => by simp [Value.ownBlock] at hk; omega))
    clear hown' hgrow hi hz0 hz1 hz2 hcell HA
    go_wp2_with fail
    go_ret
    exact RetOwn.mk HO4.out HG4.out
set_option maxRecDepth 100000 in
set_option maxHeartbeats 2000000 in
theorem r8R_none (op a b c ww n : Int) (sign : ByteArray) (aa : Option Addr) (an ac : Nat) (args : List Int) (w : World) (h : op < 3 ∨ op = 17 ∨ 20 ≤ op) :
    Calls Tryd.prog 11 #[insV ⟨op, a, b, c, ww, n, sign, aa, an, ac, args⟩] w fun e w' => RetOwn w [] e w' := by
  have e3 : (op == 3) = false := by simp; omega
  have e4 : (op == 4) = false := by simp; omega
  have e5 : (op == 5) = false := by simp; omega
  have e6 : (op == 6) = false := by simp; omega
  have e7 : (op == 7) = false := by simp; omega
  have e8 : (op == 8) = false := by simp; omega
  have e9 : (op == 9) = false := by simp; omega
  have e10 : (op == 10) = false := by simp; omega
  have e11 : (op == 11) = false := by simp; omega
  have e12 : (op == 12) = false := by simp; omega
  have e13 : (op == 13) = false := by simp; omega
  have e14 : (op == 14) = false := by simp; omega
  have e15 : (op == 15) = false := by simp; omega
  have e16 : (op == 16) = false := by simp; omega
  have e18 : (op == 18) = false := by simp; omega
  have e19 : (op == 19) = false := by simp; omega
  unfold insV insC
  clear h
  go_enter Tryd.func11, Tryd.ntmps11
  go_wp2_with fail
  go_ret
  exact RetOwn.nil (by repeat (first | with_reducible exact grownBy_refl _ _ | with_reducible assumption | with_reducible refine World.grownBy.gr_drew ?_ | with_reducible refine World.grownBy.gr_set ?_ (by simp) _ | with_reducible refine gr_alloc ?_ _))
theorem r8_Reads_own (i : Ins) (w : World) (hA : IntsAt w i.aa i.an i.ac i.args) (hlen : (readsI i).length * 8 ≤ 140737488355328) :
    Calls Tryd.prog 11 #[insV i] w fun e w' => RetOwn w (readsI i) e w' := by
  rw [readsI_tab] at hlen ⊢
  obtain ⟨op, a, b, c, ww, n, sign, aa, an, ac, args⟩ := i
  by_cases h : op < 3 ∨ op = 17 ∨ 20 ≤ op
  · rw [show tabR ⟨op, a, b, c, ww, n, sign, aa, an, ac, args⟩ = [] by unfold tabR; simp only []; repeat rw [if_neg (by omega)]]
    exact r8R_none op a b c ww n sign aa an ac args w h
  · have hk : op = 3 ∨ op = 4 ∨ op = 5 ∨ op = 6 ∨ op = 7 ∨ op = 8 ∨ op = 9 ∨ op = 10 ∨ op = 11 ∨ op = 12 ∨ op = 13 ∨ op = 14 ∨ op = 15 ∨ op = 16 ∨ op = 18 ∨ op = 19 := by omega
    clear h
    rcases hk with rfl | rfl | rfl | rfl | rfl | rfl | rfl | rfl | rfl | rfl | rfl | rfl | rfl | rfl | rfl | rfl
    · exact r8R_3 a b c ww n sign aa an ac args w
    · exact r8R_4 a b c ww n sign aa an ac args w
    · exact r8R_5 a b c ww n sign aa an ac args w
    · exact r8R_6 a b c ww n sign aa an ac args w
    · exact r8R_7 a b c ww n sign aa an ac args w
    · exact r8R_8 a b c ww n sign aa an ac args w
    · exact r8R_9 a b c ww n sign aa an ac args w
    · exact r8R_10 a b c ww n sign aa an ac args w
    · exact r8R_11 a b c ww n sign aa an ac args w
    · exact r8R_12 a b c ww n sign aa an ac args w
    · exact r8R_13 a b c ww n sign aa an ac args w
    · exact r8R_14 a b c ww n sign aa an ac args w
    · exact r8R_15 a b c ww n sign aa an ac args w hA (by simp [tabR] at hlen; omega)
    · exact r8R_16 a b c ww n sign aa an ac args w hA (by simp [tabR] at hlen; omega)
    · exact r8R_18 a b c ww n sign aa an ac args w
    · rw [show tabR ⟨19, a, b, c, ww, n, sign, aa, an, ac, args⟩ = (if a = -1 then [] else [a]) by simp [tabR]]
      exact r8R_19n a b c ww n sign aa an ac args w
theorem r8_Reads_any (i : Ins) (w : World) (hA : IntsAt w i.aa i.an i.ac i.args) (hlen : (readsI i).length * 8 ≤ 140737488355328) :
    Calls Tryd.prog 11 #[insV i] w fun e w' => RetInts w (readsI i) e w' :=
  (r8_Reads_own i w hA hlen).mono fun _ _ h => h.ints

end Go.Proofs.YtdknclhbnhiojaaDoor
