/- LexBlanks: the plain part and the walk. -/
import Derived.Test.YthbhlmkgbinegaaDoorP5
import Derived.Test.YthbhlmkgbinegaaDoorS1
import Derived.OpenShut
namespace Go.Proofs.YthbhlmkgbinegaaDoor
open Go.RowKit
def noteL : List UInt8 := [47, 42, 32, 42, 32, 47, 32, 42, 42, 32, 42, 47, 9]
def tailL : List UInt8 := [10, 32, 47, 47, 32, 120]
theorem spaces_lex (n : Nat) : ∀ (Y : List UInt8) (a : Nat), lexG (List.replicate n 32 ++ Y) a = lexG Y (a + n) := by
  induction n with
  | zero => intro Y a; rfl
  | succ n ih =>
    intro Y a
    rw [List.replicate_succ, List.cons_append, step_sp (by simp) (by rfl)]
    show lexG (List.replicate n 32 ++ Y) (a + 1) = _
    rw [ih]; congr 1; omega
theorem note_lex (Y : List UInt8) (a : Nat) : lexG (noteL ++ Y) a = lexG Y (a + 13) := by
  have hc : commentR (noteL ++ Y) = (12 : Nat) := by
    unfold commentR
    have h1 : (noteL ++ Y).getD 1 0 = 42 := rfl
    have h2 : (noteL ++ Y).drop 2 = [32, 42, 32, 47, 32, 42, 42, 32, 42, 47, 9] ++ Y := rfl
    have h3 : Lib.index [32, 42, 32, 47, 32, 42, 42, 32, 42, 47, 9] [42, 47] = 8 := by decide
    rw [if_pos h1, h2, index_app _ _ _ (by rw [h3]; omega), h3]
    rfl
  rw [step_note (by simp [noteL]) (by rfl) (by rfl) 12 (by omega) hc]
  have h4 : (noteL ++ Y).drop 12 = 9 :: Y := rfl
  rw [h4, step_sp (by simp) (by rfl)]
  rfl
theorem tail_lex (a : Nat) : lexG [32, 47, 47, 32, 120] a = .ok [] := by
  have := lex_shift _ [32, 47, 47, 32, 120] 0 a (Nat.le_refl _)
  rw [Nat.zero_add] at this
  rw [this]
  rfl
theorem blanks_lex (n : Nat) (L : List UInt8) : lexG ((List.replicate n 32 ++ noteL) ++ L ++ tailL) 0 = (lexG L 0).shift (n + 13) := by
  rw [List.append_assoc, List.append_assoc, spaces_lex, note_lex]
  rw [lex_shift _ (L ++ tailL) 0 (n + 13) (Nat.le_refl _) |> (fun h => by simpa using h : _ → lexG (L ++ tailL) (0 + n + 13) = _)]
  congr 1
  obtain ⟨h1, h2⟩ := lex_nl [32, 47, 47, 32, 120] L.length L 0 (Nat.le_refl _)
  cases h : lexG L 0 with
  | ok ts => rw [show L ++ tailL = L ++ 10 :: [32, 47, 47, 32, 120] from rfl, h1 ts h, tail_lex]; simp [Res.pre]
  | bad p e => exact h2 (by decide) p e h
theorem pos_le (l : List UInt8) (ts : List T4) : ∀ last, Rises l last ts → ∀ t ∈ ts, t.pos ≤ l.length := by
  induction ts with
  | nil => intro _ _ t h; cases h
  | cons t0 ts ih =>
    intro last h t ht
    obtain ⟨r1, r2, r3, _, _, r6⟩ := h
    rcases List.mem_cons.1 ht with rfl | ht
    · omega
    · exact ih _ r6 t ht
theorem big_lex (s hd : ByteArray) (hrep : hd.data.toList = List.replicate hd.size 32) (hs : s.size ≤ 10000) (hh : hd.size ≤ 255) (r : Res) (h : tokensR s.data.toList = r) :
    tokensR (hd ++ ⟨#[47, 42, 32, 42, 32, 47, 32, 42, 42, 32, 42, 47, 9]⟩ ++ s ++ ⟨#[10, 32, 47, 47, 32, 120]⟩ : ByteArray).data.toList = r.shift (hd.size + 13) := by
  have e : (hd ++ ⟨#[47, 42, 32, 42, 32, 47, 32, 42, 42, 32, 42, 47, 9]⟩ ++ s ++ ⟨#[10, 32, 47, 47, 32, 120]⟩ : ByteArray).data.toList = (List.replicate hd.size 32 ++ noteL) ++ s.data.toList ++ tailL := by
    rw [ByteArray.data_append, Array.toList_append, ByteArray.data_append, Array.toList_append, ByteArray.data_append, Array.toList_append, hrep]
    rfl
  have hl : s.data.toList.length = s.size := by simp
  have h1 : tokensR s.data.toList = lexG s.data.toList 0 := by unfold tokensR; rw [if_neg (by omega)]
  rw [e, ← h, h1]
  unfold tokensR
  rw [if_neg (by simp [noteL, tailL]; omega)]
  exact blanks_lex hd.size s.data.toList
set_option maxRecDepth 100000 in
set_option maxHeartbeats 4000000 in
theorem blanks_long (s : ByteArray) (n : Int) (w : World) (hv : Vars w) (hs : 10000 < s.size) :
    Calls Tryd.prog 8 #[.string s, .int .u8 n] w fun e w' => e = .returned (.bool true) ∧ Below w.heap.size w w' := by
  have HV := Lib.hid hv
  clear hv
  go_enter Tryd.func8, Tryd.ntmps8
  go_wp2_with fail
  refine (shown_any _ HV.out).mono ?_
  rintro e w1 ⟨rfl, hb1⟩
  have HB1 := Lib.hid hb1
  clear hb1
  go_wp2_with fail
  go_ret
  exact ⟨rfl, HB1.out⟩
set_option maxRecDepth 100000 in
set_option maxHeartbeats 4000000 in
theorem blanks_ok (s : ByteArray) (m : Nat) (hm : m ≤ 255) (w : World) (hv : Vars w) (hs : s.size ≤ 10000) (ts : List T4) (h : tokensR s.data.toList = .ok ts) :
    Calls Tryd.prog 8 #[.string s, .int .u8 m] w fun e w' => e = .returned (.bool true) ∧ Below w.heap.size w w' := by
  obtain ⟨hsz, hlex⟩ := tokens_ok_facts h
  have hR := rises_of s.data.toList ts 0 (by omega) (by simpa using hlex)
  have hcount : ts.length ≤ 20000 := by have := rises_count _ ts 0 (by omega) hR; omega
  have hPos := pos_le _ ts 0 hR
  rw [show s.data.toList.length = s.size by simp] at hPos
  have HPos := Lib.hid hPos
  have HCount := Lib.hid hcount
  clear hR hlex hsz hPos
  have HV := Lib.hid hv
  have HT := Lib.hid h
  clear hv h
  go_enter Tryd.func8, Tryd.ntmps8
  go_wp2_with fail
  refine (shown_any _ HV.out).mono ?_
  rintro e w1 ⟨rfl, hb1⟩
  have HB1 := Lib.hid hb1
  have HV1 := Lib.hid (HV.out.below hb1 HV.out.size)
  clear hb1
  go_wp2_with fail
  go_loop [6, 7] (fun v i => ∃ (k : Nat) (hd : ByteArray), k ≤ m ∧ i = .int .i64 k ∧ v = .string hd ∧ hd.size = k ∧ Hid (hd.data.toList = List.replicate k 32)) (fun _ i => m - (intOf i).toNat)
  case atStart => exact ⟨0, ⟨#[]⟩, Nat.zero_le _, rfl, rfl, rfl, rfl⟩
  case round =>
    obtain ⟨k, hd, hk, rfl, rfl, hsz, hrep⟩ := hrel
    subst hsz
    by_cases hlt : hd.size < m
    · go_wp2_with fail
      refine ⟨⟨hd.size + 1, hd ++ ⟨#[32]⟩, by omega, by go_num, rfl, by simp; rfl, ?_⟩, by simp [intOf]; omega⟩
      show _ = _
      rw [ByteArray.data_append, Array.toList_append, hrep.out, List.replicate_succ']
    · have hmm : m = hd.size := by omega
      subst hmm
      go_wp2_with fail
      refine (tokens_row _ ts _ HV1.out HT.out).mono ?_
      rintro e w2 ⟨v, rfl, hrow, hb2⟩
      have HB2 := Lib.hid hb2
      have HV2 := Lib.hid (HV1.out.below hb2 HV1.out.size)
      have HRow := Lib.hid hrow
      clear hb2 hrow
      obtain ⟨a, cap, rfl, hcells⟩ := HRow.out
      have HC := Lib.hid hcells
      clear hcells
      go_wp2_with fail
      refine (tokens_row _ (ts.map (T4.shift (hd.size + 13))) _ HV2.out (big_lex s hd hrep.out hs hm _ HT.out)).mono ?_
      rintro e w3 ⟨v3, rfl, hrow3, hb3⟩
      have HB3 := Lib.hid hb3
      have HRow1 := Lib.hid ((HRow.out).below hb3)
      have HRow2 := Lib.hid hrow3
      clear hb3 hrow3
      obtain ⟨a2, cap2, rfl, hcells2⟩ := HRow2.out
      have HC2 := Lib.hid hcells2
      clear hcells2
      have hcnt : ts.length ≤ 20000 := hcount
      go_wp2_with fail
      go_loopw [14] (fun i wr => ∃ (k q : Nat), k ≤ ts.length ∧ i = .int .i64 k ∧ Hid (wr = w3.drewN q)) (fun i _ => ts.length - (intOf i).toNat)
      case atStart => exact ⟨0, 0, Nat.zero_le _, rfl, rfl⟩
      case round =>
        obtain ⟨k, q, hk, rfl, hw⟩ := hrel
        obtain rfl := hw.out
        clear hw
        by_cases hlt : k < ts.length
        · obtain ⟨a', cap', e', hcell1⟩ := HRow1.out
          cases e'
          obtain ⟨g1, rfl, _, hcell1⟩ := hcell1 (by intro e; rw [e] at hlt; simp at hlt)
          obtain ⟨g2, rfl, _, hcell2⟩ := HC2.out (by intro e; have := congrArg List.length e; simp at this; rw [this] at hlt; simp at hlt)
          obtain ⟨_, p1, _, _⟩ := cellsOf_get ts k hlt
          obtain ⟨_, q1, _, _⟩ := cellsOf_get (ts.map (T4.shift (hd.size + 13))) k (by simpa using hlt)
          have hpos := HPos.out ts[k] (List.getElem_mem hlt)
          rw [List.getElem_map] at q1
          have c1 : w3.cell? ⟨g1, k * 4 + 1, none⟩ = some (.int .i64 ts[k].pos) := by rw [hcell1 _ (by omega)]; exact p1
          have d1 : w3.cell? ⟨g2, k * 4 + 1, none⟩ = some (.int .i64 ((ts[k].pos : Int) + ((hd.size : Int) + 13))) := by
            rw [hcell2 _ (by simp; omega)]; rw [q1]; simp [T4.shift]
          generalize ts[k].pos = ps at *
          clear hcell1 hcell2 p1 q1
          have hlt' : (k : Int) < ts.length := by omega
          go_wp2_with fail
          go_quiet (fail)
          go_wp2_with fail
          exact ⟨⟨k + 1, _, by omega, by go_num, rfl⟩, by simp [intOf]; omega⟩
        · go_wp2_with fail
          have r1 : Row (w3.drewN q) (.slice a ts.length cap) ts := HRow1.out.below (below_drewN (Below.refl _ _) q)
          have r2 : Row (w3.drewN q) (.slice a2 ts.length cap2) (ts.map (T4.shift (hd.size + 13))) := by
            have := HRow2.out.below (below_drewN (Below.refl _ _) q)
            rwa [List.length_map] at this
          refine (same_no _ _ ts (ts.map (T4.shift (hd.size + 13))) _ r1 r2 (by simp) HCount.out (fun k hk hk2 => by rw [List.getElem_map]; exact ⟨rfl, rfl, rfl, fun h => by cases h⟩)).mono ?_
          rintro e w4 ⟨rfl, q2, rfl⟩
          clear r1 r2
          go_wp2_with fail
          go_ret
          exact ⟨rfl, below_drewN (HB1.out.trans ((HB2.out.mono HB1.out.size).trans (HB3.out.mono (Nat.le_trans HB1.out.size HB2.out.size)))) _⟩
theorem row_nil (w : World) : Row w (.slice none 0 0) [] := ⟨none, 0, rfl, fun h => absurd rfl h⟩
set_option maxRecDepth 100000 in
set_option maxHeartbeats 4000000 in
theorem blanks_bad (s : ByteArray) (m : Nat) (hm : m ≤ 255) (w : World) (hv : Vars w) (hs : s.size ≤ 10000) (p : Nat) (er : Int) (h : tokensR s.data.toList = .bad p er) :
    Calls Tryd.prog 8 #[.string s, .int .u8 m] w fun e w' => e = .returned (.bool true) ∧ Below w.heap.size w w' := by
  obtain ⟨hp, hne⟩ := tokens_bad_facts h
  have hp' : p ≤ s.size := by simpa using hp
  have HV := Lib.hid hv
  have HT := Lib.hid h
  clear hv h hp
  go_enter Tryd.func8, Tryd.ntmps8
  go_wp2_with fail
  refine (shown_any _ HV.out).mono ?_
  rintro e w1 ⟨rfl, hb1⟩
  have HB1 := Lib.hid hb1
  have HV1 := Lib.hid (HV.out.below hb1 HV.out.size)
  clear hb1
  go_wp2_with fail
  go_loop [6, 7] (fun v i => ∃ (k : Nat) (hd : ByteArray), k ≤ m ∧ i = .int .i64 k ∧ v = .string hd ∧ hd.size = k ∧ Hid (hd.data.toList = List.replicate k 32)) (fun _ i => m - (intOf i).toNat)
  case atStart => exact ⟨0, ⟨#[]⟩, Nat.zero_le _, rfl, rfl, rfl, rfl⟩
  case round =>
    obtain ⟨k, hd, hk, rfl, rfl, hsz, hrep⟩ := hrel
    subst hsz
    by_cases hlt : hd.size < m
    · go_wp2_with fail
      refine ⟨⟨hd.size + 1, hd ++ ⟨#[32]⟩, by omega, by go_num, rfl, by simp; rfl, ?_⟩, by simp [intOf]; omega⟩
      show _ = _
      rw [ByteArray.data_append, Array.toList_append, hrep.out, List.replicate_succ']
    · have hmm : m = hd.size := by omega
      subst hmm
      go_wp2_with fail
      refine (tokens_bad _ p er _ HV1.out HT.out).mono ?_
      rintro e w2 ⟨rfl, hb2⟩
      have HB2 := Lib.hid hb2
      have HV2 := Lib.hid (HV1.out.below hb2 HV1.out.size)
      clear hb2
      go_wp2_with fail
      refine (tokens_bad _ (p + (hd.size + 13)) er _ HV2.out (big_lex s hd hrep.out hs hm _ HT.out)).mono ?_
      rintro e w3 ⟨rfl, hb3⟩
      have HB3 := Lib.hid hb3
      clear hb3
      have ec : ((p + (hd.size + 13) : Nat) : Int) = (p : Int) + ((hd.size : Int) + 13) := by omega
      rw [ec]
      clear ec
      go_wp2_with fail
      go_loop [14] (fun i => i = .int .i64 0) (fun _ => 0)
      case atStart => rfl
      case round =>
        subst hrel
        go_wp2_with fail
        refine (same_no _ _ [] [] _ (row_nil _) (row_nil _) rfl (by simp) (fun k hk => by simp at hk)).mono ?_
        rintro e w4 ⟨rfl, q2, rfl⟩
        go_wp2_with fail
        go_ret
        exact ⟨rfl, below_drewN (HB1.out.trans ((HB2.out.mono HB1.out.size).trans (HB3.out.mono (Nat.le_trans HB1.out.size HB2.out.size)))) _⟩
theorem blanks_walk (s : ByteArray) (n : Int) (hn : (Lit.int .u8 n).wf = true) (w : World) (hv : Vars w) :
    Calls Tryd.prog 8 #[.string s, .int .u8 n] w fun e w' => e = .returned (.bool true) ∧ Below w.heap.size w w' := by
  have hb := bounds_u8 hn
  by_cases hs : 10000 < s.size
  · exact blanks_long s n w hv hs
  · obtain ⟨m, hm⟩ : ∃ m : Nat, n = m := ⟨n.toNat, by omega⟩
    subst hm
    cases h : tokensR s.data.toList with
    | ok ts => exact blanks_ok s m (by omega) w hv (by omega) ts h
    | bad p e => exact blanks_bad s m (by omega) w hv (by omega) p e h
end Go.Proofs.YthbhlmkgbinegaaDoor
