/- character, sign. -/
import Derived.Test.YthbhlmkgbinegaaDoorA5
import Derived.RegionTactic
import Derived.ChangeAlike
namespace Go.Proofs.YthbhlmkgbinegaaDoor
open Go.RowKit
theorem charR_short (s : ByteArray) (h : s.size < 3) : charR s.data.toList = Tk.bad 2 := by
  have : s.data.toList.length = s.size := by simp
  unfold charR
  split
  · rename_i e; rw [e] at this; simp at this; omega
  · rfl
theorem charR_list (l : List UInt8) (h : 3 ≤ l.length) : charR l = if l[2] = 39 ∧ isPl (l[1].toNat : Nat) = true then ⟨3, 3, (l[1].toNat : Nat), 0⟩ else Tk.bad 2 := by
  match l, h with
  | a :: b :: c :: r, _ => simp [charR]
  | [], hl => simp at hl
  | [a], hl => simp at hl
  | [a, b], hl => simp at hl
theorem charR_long (s : ByteArray) (h : 3 ≤ s.size) : charR s.data.toList = if s[2] = 39 ∧ isPl (s[1].toNat : Nat) = true then ⟨3, 3, (s[1].toNat : Nat), 0⟩ else Tk.bad 2 :=
  charR_list s.data.toList (by simpa using h)
set_option maxHeartbeats 800000 in
theorem charR_any (s : ByteArray) (w : World) (hs : s.size ≤ maxLen) :
    Calls Tryd.prog 29 #[.string s] w fun e w' => e = .returned (tokV s (charR s.data.toList)) ∧ Below w.heap.size w w' := by
  unfold maxLen at hs
  by_cases h1 : s.size < 3
  · have HR := Lib.hid (charR_short s h1)
    go_enter Tryd.func29, Tryd.ntmps29
    go_wp2_with fail
    exact bodyPost_ret (v := .tuple #[.agg #[.int .i64 0, .int .i64 0, .string ⟨#[]⟩, .int .i64 0], .int .i64 2]) (by simp [results, Tryd.results29, go_sem]) rfl ⟨by rw [HR.out, tokV_bad], below_new _⟩
  · have h3 : 3 ≤ s.size := by omega
    have hR := charR_long s h3
    by_cases h2 : s[2] = 39
    · have c2 : (s[2].toNat : Int) = 39 := by rw [h2]; rfl
      cases h4 : isPl (s[1].toNat : Nat) with
      | true =>
        rw [if_pos ⟨h2, h4⟩] at hR
        have HR := Lib.hid hR
        have H4 := Lib.hid h4
        clear hR h2
        go_enter Tryd.func29, Tryd.ntmps29
        go_wp2_with (go_at_call 46; refine (isPlain_any _ _).mono ?_; rintro e w' ⟨rfl, rfl⟩)
        have hsz : (s.extract 0 3).size = 3 := by simp; omega
        have hwr : wrap64 (s[1].toNat : Int) = s[1].toNat := IntWalk.wrap64_in _ ⟨by omega, by have := UInt8.toNat_lt s[1]; omega⟩
        go_region
        all_goals go_wp2
        all_goals (refine bodyPost_ret (v := .tuple #[.agg #[.int .i64 3, .int .i64 0, .string (s.extract 0 3), .int .i64 (s[1].toNat : Nat)], .int .i64 0]) ?_ rfl ⟨?_, ?_⟩)
        all_goals first | (rw [HR.out, tokV]; done) | exact (below_new _).drew | (simp [results, Tryd.results29, go_sem]; done)
      | false =>
        rw [if_neg (by rw [h4]; simp)] at hR
        have HR := Lib.hid hR
        clear hR h2
        go_enter Tryd.func29, Tryd.ntmps29
        go_wp2_with (go_at_call 46; refine (isPlain_any _ _).mono ?_; rintro e w' ⟨rfl, rfl⟩)
        all_goals exact bodyPost_ret (v := .tuple #[.agg #[.int .i64 0, .int .i64 0, .string ⟨#[]⟩, .int .i64 0], .int .i64 2]) (by simp [results, Tryd.results29, go_sem]) rfl ⟨by rw [HR.out, tokV_bad], below_new _⟩
    · have c2 : ¬ (s[2].toNat : Int) = 39 := by
        intro e; exact h2 (UInt8.toNat_inj.1 (by have : (39 : UInt8).toNat = 39 := rfl; omega))
      rw [if_neg (by simp [h2])] at hR
      have HR := Lib.hid hR
      clear hR h2
      go_enter Tryd.func29, Tryd.ntmps29
      go_wp2_with (go_at_call 46; refine (isPlain_any _ _).mono ?_; rintro e w' ⟨rfl, rfl⟩)
      all_goals exact bodyPost_ret (v := .tuple #[.agg #[.int .i64 0, .int .i64 0, .string ⟨#[]⟩, .int .i64 0], .int .i64 2]) (by simp [results, Tryd.results29, go_sem]) rfl ⟨by rw [HR.out, tokV_bad], below_new _⟩
theorem signR_at (l : List UInt8) (k : Nat) (hk : k < opL.length) (hn : ∀ j (hj : j < k), Lib.hasPrefix l (opL[j]'(by omega)) = false) (hy : Lib.hasPrefix l opL[k] = true) : signR l = ⟨4, (opL[k]).length, 0, 0⟩ := by
  have : opL.find? (fun o => Lib.hasPrefix l o) = some opL[k] := by
    rw [List.find?_eq_some_iff_getElem]
    exact ⟨hy, k, hk, rfl, fun j hj => by simpa using hn j hj⟩
  simp [signR, this]
theorem signR_no (l : List UInt8) (hn : ∀ j (hj : j < opL.length), Lib.hasPrefix l opL[j] = false) : signR l = Tk.bad 2 := by
  have : opL.find? (fun o => Lib.hasPrefix l o) = none := by
    rw [List.find?_eq_none]
    intro x hx
    obtain ⟨j, hj, rfl⟩ := List.getElem_of_mem hx
    simp [hn j hj]
  simp [signR, this]
theorem pre_take {l p : List UInt8} (h : Lib.hasPrefix l p = true) : l.take p.length = p := by
  unfold Lib.hasPrefix at h
  exact (List.prefix_iff_eq_take.1 (List.isPrefixOf_iff_prefix.1 h)).symm
theorem pre_extract {s : ByteArray} {p : List UInt8} (h : Lib.hasPrefix s.data.toList p = true) : s.extract 0 p.length = ⟨p.toArray⟩ := by
  apply ByteArray.ext
  apply Array.ext'
  have := ext_take s p.length
  rw [this, pre_take h]
set_option maxHeartbeats 800000 in
theorem signR_any (s : ByteArray) (w : World) (hv : Vars w) :
    Calls Tryd.prog 30 #[.string s] w fun e w' => e = .returned (tokV s (signR s.data.toList)) ∧ Below w.heap.size w w' := by
  obtain ⟨t, fr, hg⟩ := hv.op
  have HG : Hid (∀ o, ((w.alloc o).heap)[1]? = some (Obj.cells opC t fr)) := fun o => by
    rw [(below_new o).block 1 (by have := hv.size; omega)]; exact hg
  clear hg hv
  go_enter Tryd.func30, Tryd.ntmps30
  go_wp2_with (refine wpList_load_row rfl 65 _ rfl 1 rfl t _ fr _ (HG.out _) Tryd.underlying65 rfl (by kernel_rfl) ?_)
  go_loop [5, 7] (fun _ i => ∃ k : Nat, k ≤ 29 ∧ i = .int .i64 k ∧ ∀ j (hj : j < k) (hj2 : j < opL.length), Lib.hasPrefix s.data.toList opL[j] = false) (fun _ i => 29 - (intOf i).toNat)
  case atStart => exact ⟨0, Nat.zero_le _, rfl, fun j hj => absurd hj (by omega)⟩
  case round =>
    obtain ⟨k, hk, rfl, hall0⟩ := hrel
    have hall := Lib.hid hall0
    clear hall0
    by_cases hlt : k < 29
    · have hk2 : k < opL.length := hlt
      have hix : ∀ w, (Instr.index 65 (.agg opC) (.int .i64 k)).run Tryd.prog w = .ok (.string ⟨(opL[k]).toArray⟩) w := fun w => index_tab opL k hk2 w Tryd.underlying65 rfl
      have hb : ∃ b, Lib.hasPrefix s.data.toList opL[k] = b := ⟨_, rfl⟩
      generalize hx : opL[k] = x at hix hb
      have hx := Lib.hid hx
      obtain ⟨b, hb⟩ := hb
      have HB := Lib.hid hb
      clear hb
      cases b with
      | true =>
        go_wp2_with fail
        refine (hp_is true _ _ _ HB.out).mono ?_
        rintro e w' ⟨rfl, rfl⟩
        go_wp2_with fail
        refine bodyPost_ret (v := .tuple #[.agg #[.int .i64 4, .int .i64 0, .string ⟨x.toArray⟩, .int .i64 0], .int .i64 0]) (by simp [results, Tryd.results30, go_sem]) rfl ⟨?_, below_new _⟩
        rw [signR_at _ k hk2 (fun j hj => hall.out j hj (by omega)) (by rw [hx.out]; exact HB.out), tokV]
        simp only [hx.out]
        rw [pre_extract HB.out]
      | false =>
        go_wp2_with fail
        refine (hp_is false _ _ _ HB.out).mono ?_
        rintro e w' ⟨rfl, rfl⟩
        go_wp2_with fail
        go_round
        case rel => exact ⟨k + 1, by omega, by go_num, fun j hj hj2 => by
          by_cases e : j = k
          · subst e; rw [hx.out]; exact HB.out
          · exact hall.out j (by omega) hj2⟩
        case measure => simp [intOf]; omega
    · go_wp2_with fail
      refine bodyPost_ret (v := .tuple #[.agg #[.int .i64 0, .int .i64 0, .string ⟨#[]⟩, .int .i64 0], .int .i64 2]) (by simp [results, Tryd.results30, go_sem]) rfl ⟨?_, below_new _⟩
      rw [signR_no _ (fun j hj => hall.out j (by have : opL.length = 29 := rfl; omega) hj), tokV_bad]
end Go.Proofs.YthbhlmkgbinegaaDoor
