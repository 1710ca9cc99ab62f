/- The document's answer: Name, Text. -/
import Derived.Test.YthbhlmkgbinegaaDoorW2
import Derived.Test.YthbhlmkgbinegaaDoorE6
import Derived.Test.YthbhlmkgbinegaaDoorP4
namespace Go.Proofs.YthbhlmkgbinegaaDoor
open Go.RowKit
theorem rw_is' (b : Bool) (s : ByteArray) (w : World) (h : isKw s.data.toList = b) :
    Calls Tryd.prog 18 #[.string s] w fun e w' => e = .returned (.bool b) ∧ Below w.heap.size w w' := by
  subst h; exact rWord s w
theorem run_of' (n : Nat) (s : ByteArray) (w : World) (hs : s.size ≤ maxLen) (h : pfx isWb s.data.toList = n) :
    Calls Tryd.prog 35 #[.string s, .int .i64 0] w fun e w' => e = .returned (.int .i64 n) ∧ w = w' := by
  subst h; exact rRun s w hs
theorem let_dig (c : Int) (h : isWb c = true) : isLet c = !isDig c := by
  cases hl : isLet c with
  | true => rw [let_not_dig hl]; rfl
  | false => unfold isWb at h; rw [hl] at h; simp at h; rw [h]; rfl
set_option maxHeartbeats 2000000 in
theorem rName (s : ByteArray) (w : World) (hs : s.size ≤ maxLen) :
    Calls Tryd.prog 16 #[.string s] w fun e w' => e = .returned (.bool (isName s.data.toList)) ∧ Below w.heap.size w w' := by
  have hs' := hs
  unfold maxLen at hs
  by_cases h0 : s.size = 0
  · have he : s.toList.isEmpty = true := by rw [ByteArray.toList_eq, size_zero h0]; rfl
    have hn : isName s.data.toList = false := by rw [size_zero h0]; rfl
    have HN := Lib.hid hn
    clear hn h0
    go_enter Tryd.func16, Tryd.ntmps16
    go_wp2_with fail
    go_ret
    exact ⟨ret_bool HN.out.symm, Below.refl _ _⟩
  have he : s.toList.isEmpty = false := by
    rw [ByteArray.toList_eq, Bool.eq_false_iff]; intro e; rw [List.isEmpty_iff] at e
    have : s.data.toList.length = s.size := by simp
    rw [e] at this; simp at this; omega
  by_cases h1 : 24 < s.size
  · have hn : isName s.data.toList = false := isName_len (by simpa using h1)
    have HN := Lib.hid hn
    clear hn h0
    go_enter Tryd.func16, Tryd.ntmps16
    go_wp2_with fail
    go_ret
    exact ⟨ret_bool HN.out.symm, Below.refl _ _⟩
  have h00 : 0 < s.size := by omega
  have hhead := headD_bytes s h00
  clear h0
  by_cases h3 : pfx isWb s.data.toList = s.size
  · have H3 := Lib.hid h3
    have hwb : isWb (s[0].toNat : Nat) = true := pfx_all isWb s.data.toList 0 (by omega)
    have hld := let_dig _ hwb
    clear h3
    cases h2 : isLet (s[0].toNat : Nat) with
    | false =>
      have hd : isDig (s[0].toNat : Nat) = true := by rw [h2] at hld; simpa using hld.symm
      have hn : isName s.data.toList = false := isName_dig (by rw [hhead]; exact hd)
      have HN := Lib.hid hn
      have H2 := Lib.hid h2
      clear hn hhead hwb hld h2 hd
      go_enter Tryd.func16, Tryd.ntmps16
      go_wp2_with (first | (go_at_call 35; refine (run_of' _ _ _ hs' H3.out).mono ?_; rintro e w' ⟨rfl, rfl⟩) | (go_at_call 36; refine (rl_is false _ _ H2.out).mono ?_; rintro e w' ⟨rfl, rfl⟩))
      go_ret
      exact ⟨ret_bool HN.out.symm, Below.refl _ _⟩
    | true =>
      have hd : isDig (s[0].toNat : Nat) = false := by rw [h2] at hld; simpa using hld.symm
      have H2 := Lib.hid h2
      obtain ⟨b, h4⟩ : ∃ b, isKw s.data.toList = b := ⟨_, rfl⟩
      have H4 := Lib.hid h4
      have HN : Hid (isName s.data.toList = !b) := by
        show _ = _
        cases b with
        | true => exact isName_kw h4
        | false => exact isName_yes (by simp; omega) (by simp; omega) (by rw [hhead]; exact hd) (by rw [H3.out]; simp) h4
      clear hhead hwb hld h2 hd h4
      cases b
      all_goals
        go_enter Tryd.func16, Tryd.ntmps16
        go_wp2_with (first | (go_at_call 35; refine (run_of' _ _ _ hs' H3.out).mono ?_; rintro e w' ⟨rfl, rfl⟩) | (go_at_call 36; refine (rl_is true _ _ H2.out).mono ?_; rintro e w' ⟨rfl, rfl⟩))
        refine (rw_is' _ _ _ H4.out).mono ?_
        rintro e w1 ⟨rfl, hb1⟩
        have HB1 := Lib.hid hb1
        clear hb1
        go_wp2_with fail
        go_ret
        exact ⟨ret_bool HN.out.symm, HB1.out⟩
  · have hn : isName s.data.toList = false := isName_pfx (by simpa using h3)
    have HN := Lib.hid hn
    obtain ⟨n, hpn⟩ : ∃ n, pfx isWb s.data.toList = n := ⟨_, rfl⟩
    rw [hpn] at h3
    have H3 := Lib.hid hpn
    have hb : ((n : Int) == s.size) = false := by simp; omega
    clear hn h3 hhead hpn
    go_enter Tryd.func16, Tryd.ntmps16
    go_wp2_with (go_at_call 35; refine (run_of' _ _ _ hs' H3.out).mono ?_; rintro e w' ⟨rfl, rfl⟩)
    go_ret
    exact ⟨ret_bool HN.out.symm, Below.refl _ _⟩
set_option maxRecDepth 100000 in
set_option maxHeartbeats 4000000 in
theorem rText (v : Value) (l : List T4) (w : World) (hv : Toks w v l) (hl : l.length ≤ 100000000) (hlen : (txt l).length ≤ 100000000) :
    Calls Tryd.prog 20 #[v] w fun e w' => e = .returned (.string ⟨(txt l).toArray⟩) ∧ w = w' := by
  obtain ⟨a, cap, rfl, hc⟩ := hv
  have HC := Lib.hid hc
  have HL := Lib.hid hlen
  clear hc hlen
  go_enter Tryd.func20, Tryd.ntmps20
  go_wp2_with fail
  go_loop [3, 4] (fun t i => ∃ (k : Nat) (S : ByteArray), k ≤ l.length ∧ i = .int .i64 k ∧ t = .string S ∧ Hid (S.data.toList = txt (l.take k))) (fun _ i => l.length - (intOf i).toNat)
  case atStart => exact ⟨0, ⟨#[]⟩, Nat.zero_le _, rfl, rfl, rfl⟩
  case round =>
    obtain ⟨k, S, hk, rfl, rfl, hS⟩ := hrel
    by_cases hlt : k < l.length
    · obtain ⟨g, off, rfl, hg, hcell⟩ := HC.out (by intro e; rw [e] at hlt; simp at hlt)
      obtain ⟨kd, ps, vl, p0, p1, p2, p3⟩ := hcell k hlt
      have htk := txt_take l k hlt
      have hmono := txt_mono l (k + 1)
      have hlim := HL.out
      generalize l[k].text = tl at *
      obtain ⟨tx, htx⟩ : ∃ tx : ByteArray, ⟨tl.toArray⟩ = tx := ⟨_, rfl⟩
      have htl : tl = tx.data.toList := by rw [← htx]
      rw [htx] at p2
      have hlt' : (k : Int) < l.length := by omega
      have HTK := Lib.hid htk
      have HTL := Lib.hid htl
      clear htk hcell p0 p1 p3 htx
      have hSl : S.size = (txt (l.take k)).length := by rw [← hS.out]; simp
      by_cases h0 : k = 0
      · have HE : Hid (S = ⟨#[]⟩) := by
          show _ = _
          have := hS.out; rw [h0] at this
          exact ByteArray.ext (Array.ext' this)
        have e1 : txt (l.take (k + 1)) = tx.data.toList := by rw [HTK.out, if_pos h0]; exact HTL.out
        have E1 := Lib.hid e1
        have hts : tx.size ≤ 100000000 := by
          have : (txt (l.take (k + 1))).length = tx.size := by rw [e1]; simp
          omega
        have hss : S.size ≤ 0 := by
          have : (txt (l.take k)).length = 0 := by rw [h0]; rfl
          omega
        have hk0 : k ≤ 0 := by omega
        clear e1 htl hmono hlim h0 hSl
        go_wp2_with fail
        refine ⟨⟨k + 1, _, by omega, by go_num, rfl, ?_⟩, by simp [intOf]; omega⟩
        show _ = _
        rw [E1.out, HE.out]; simp
      · have hk0 : 0 < k := by omega
        have e1 : txt (l.take (k + 1)) = txt (l.take k) ++ 32 :: tx.data.toList := by rw [HTK.out, if_neg h0, HTL.out]
        have E1 := Lib.hid e1
        have hts : S.size + 1 + tx.size ≤ 100000000 := by
          have := congrArg List.length e1
          simp at this
          omega
        clear e1 htl hmono hlim h0 hSl
        go_wp2_with fail
        refine ⟨⟨k + 1, _, by omega, by go_num, rfl, ?_⟩, by simp [intOf]; omega⟩
        show _ = _
        rw [E1.out, ← hS.out]; simp
    · have hke : k = l.length := by omega
      have HK : Hid (l.take k = l) := by show _ = _; rw [hke, List.take_length]
      clear hke
      go_wp2_with fail
      go_ret
      refine ⟨?_, rfl⟩
      have h1 := hS.out
      rw [HK.out] at h1
      rw [← h1]
      rfl
end Go.Proofs.YthbhlmkgbinegaaDoor
