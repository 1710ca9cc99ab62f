/- mem: one block; MemFills, walked. -/
import Derived.Test.YtblhnjoophhliaaM14
namespace Go.Proofs.Ytblhnjoophhliaa
open Go.RowKit
theorem cut_one (g : Nat) (b : Blk) (q n : Int) : cutI [(g, b)] ⟨q, 1, 0⟩ n = if b.live = true ∧ witB b.bytes.length q n = true then some 0 else none := by
  unfold cutI
  have h : findI [(g, b)].length 1 = some 0 := rfl
  have hp : ptrB ⟨q, 1, 0⟩ = true := rfl
  rw [h]
  simp only [List.getElem?_cons_zero, hp, true_and]
def putY (b : Blk) (M : List Byt) : Blk := { b with bytes := M }
theorem wit_nat {len a n : Nat} (h : a + n ≤ len) : witB len (a : Int) n = true := by
  unfold witB
  exact decide_eq_true (by omega)
theorem wit_not {len a n : Nat} (h : ¬ a + n ≤ len) : witB len (a : Int) n = false := by
  unfold witB
  exact decide_eq_false (by omega)
theorem store_one {g : Nat} {b : Blk} {a n : Nat} {v : Val} {l : List Byt} (hb : b.live = true) (hw : widB n = true) (hl : encP n v = some l) (h : a + n ≤ b.bytes.length) :
    storeP [(g, b)] ⟨a, 1, 0⟩ n v = ([(g, putY b (splice b.bytes a l))], 0) := by
  unfold storeP
  rw [if_neg (by rw [hw]; simp), cut_one, if_pos ⟨hb, wit_nat h⟩]
  simp only [List.getElem?_cons_zero, Int.toNat_natCast, hl]
  rfl
theorem fill_one {g : Nat} {b : Blk} {a k : Nat} {c : Int} (hb : b.live = true) (hk : k ≤ 4096) (h : a + k ≤ b.bytes.length) :
    fillP [(g, b)] ⟨a, 1, 0⟩ ⟨c, 0, 0⟩ ⟨k, 0, 0⟩ = ([(g, putY b (splice b.bytes a (nums (c % 256) k)))], 0) := by
  unfold fillP
  have h1 : numB ⟨c, 0, 0⟩ = true := rfl
  have h2 : numB ⟨k, 0, 0⟩ = true := rfl
  have h3 : lenB k = true := decide_eq_true (by omega)
  rw [if_neg (by rw [h1, h2]; simp [h3]), cut_one, if_pos ⟨hb, wit_nat h⟩]
  simp only [List.getElem?_cons_zero, Int.toNat_natCast]
  rfl
theorem fill_not {g : Nat} {b : Blk} {a k : Nat} {c : Int} (h : ¬ a + k ≤ b.bytes.length) :
    fillP [(g, b)] ⟨a, 1, 0⟩ ⟨c, 0, 0⟩ ⟨k, 0, 0⟩ = ([(g, b)], 9) := by
  unfold fillP
  split
  · rfl
  · rw [cut_one, if_neg (by rw [wit_not h]; simp)]
theorem load_one {g : Nat} {b : Blk} {a n : Nat} (hb : b.live = true) (hw : widB n = true) (h : a + n ≤ b.bytes.length) {x : Byt} (hx : b.bytes[a]? = some x) :
    loadP [(g, b)] ⟨a, 1, 0⟩ n = decR x (segL b.bytes a n) := by
  unfold loadP
  rw [if_neg (by rw [hw]; simp), cut_one, if_pos ⟨hb, wit_nat h⟩]
  simp only [List.getElem?_cons_zero, Int.toNat_natCast, hx]
theorem bytes_one (g : Nat) (b : Blk) : bytesP [(g, b)] 1 = b.bytes := rfl
theorem seg_one {M : List Byt} {a : Nat} {x : Byt} (h : M[a]? = some x) : segL M a 1 = [x] := by
  have e := seg_succ (M := M) (o := a) (k := 0) (x := x) (by simpa using h)
  rw [e]
  simp [segL]
theorem decR_num {c : Int} (h0 : 0 ≤ c) (h1 : c < 256) : decR ⟨1, c, val0⟩ [⟨1, c, val0⟩] = (⟨c, 0, 0⟩, 0) := by
  have e : numP [⟨1, c, val0⟩] = (⟨c, 0, 0⟩, true) := by
    unfold numP
    rw [if_pos (by simp [allN])]
    unfold sgnI sumN sumN
    rw [if_neg (by simp)]
    have : wrap64 ((c.toNat + 256 * 0 : Nat) : Int) = c := by rw [IntWalk.wrap64_in _ (by omega)]; omega
    rw [this]
  have e2 : decP ⟨1, c, val0⟩ [⟨1, c, val0⟩] = (⟨c, 0, 0⟩, true) := by
    unfold decP
    rw [if_pos rfl, e]
  unfold decR
  rw [e2]
  rfl
theorem splice_in {α : Type} {L l : List α} {o i : Nat} (ho : o ≤ L.length) (h1 : o ≤ i) (h2 : i < o + l.length) : (splice L o l)[i]? = l[i - o]? := by
  unfold splice
  rw [List.getElem?_append_right (by rw [List.length_take]; omega), List.length_take, Nat.min_eq_left ho, List.getElem?_append_left (by omega)]
theorem splice_out {α : Type} {L l : List α} {o i : Nat} (ho : o + l.length ≤ L.length) (h : i < o ∨ o + l.length ≤ i) : (splice L o l)[i]? = L[i]? := by
  unfold splice
  rcases h with h | h
  · rw [List.getElem?_append_left (by rw [List.length_take]; omega), List.getElem?_take, if_pos h]
  · rw [List.getElem?_append_right (by rw [List.length_take]; omega), List.length_take, Nat.min_eq_left (by omega), List.getElem?_append_right (by omega), List.getElem?_drop]
    congr 1; omega
/-- What MemFills stores first, and then fills. -/
def fiB : Blk := newB 0 64 false
def fiM (a : Nat) : List Byt := splice fiB.bytes (a - a % 8) (ptrL ⟨1, 1, 0⟩ 8)
theorem fiM_len {a : Nat} (h : a < 64) : (fiM a).length = 64 := by
  unfold fiM
  rw [splice_len _ _ _ (by rw [ptrL_len]; show _ ≤ (newB 0 64 false).bytes.length; rw [newB_len]; omega)]
  exact newB_len _ _ _
theorem fi1 (g : Nat) {a : Nat} (h : a < 64) : storeP [(g, fiB)] ⟨((a - a % 8 : Nat) : Int), 1, 0⟩ 8 ⟨1, 1, 0⟩ = ([(g, putY fiB (fiM a))], 0) :=
  store_one (n := 8) rfl rfl rfl (by show _ ≤ (newB 0 64 false).bytes.length; rw [newB_len]; omega)
theorem fi0 (g : Nat) : allocP [] g 0 64 false = ([(g, fiB)], 1, 0) := rfl
set_option maxRecDepth 100000 in
set_option maxHeartbeats 8000000 in
theorem fills_walk (c x y : Int) (hx0 : 0 ≤ x) (hx1 : x < 256) (hy0 : 0 ≤ y) (hy1 : y < 256) (w : World) :
    Calls Try.prog 9 #[.int .i64 c, .int .u8 x, .int .u8 y] w fun e w' => e = .returned (.bool true) ∧ w.grownBy w' none := by
  obtain ⟨a, ha⟩ : ∃ a : Nat, x % 64 = a := ⟨(x % 64).toNat, by omega⟩
  obtain ⟨k, hk⟩ : ∃ k : Nat, y % 65 = k := ⟨(y % 65).toNat, by omega⟩
  have ha1 : a < 64 := by omega
  have hk1 : k ≤ 64 := by omega
  have HA := Lib.hid ha
  have HK := Lib.hid hk
  have HX8 := Lib.hid (show x % 64 - x % 8 = ((a - a % 8 : Nat) : Int) by omega)
  clear ha hk
  go_enter Try.func9, Try.ntmps9
  go_wp2_with fail
  refine (shown_any _).mono ?_
  rintro e w1 ⟨rfl, hg⟩
  have HG1 := Lib.hid hg
  clear hg
  go_wp2_with fail
  refine (New_any w1).mono ?_
  rintro e w2 ⟨rfl, rfl⟩
  have HS2 := Lib.hid (St.new w w1 HG1.out)
  go_wp2_with fail
  refine (alloc_st 0 64 false HS2.out).mono ?_
  rintro e w3 ⟨rfl, hs, hkk⟩
  rw [fi0] at hs ⊢
  dsimp only at hs ⊢
  have HS3 := Lib.hid hs
  clear hs hkk HS2 HG1
  generalize (w1.alloc (.cells #[.slice none 0 0] 73)).heap.size = g at *
  generalize w1.heap.size = m at *
  go_wp2_with fail
  rw [HX8.out]
  refine (at_any _ _).mono ?_
  rintro e w4 ⟨rfl, hg⟩
  have HS4 := Lib.hid (HS3.out.gr' hg)
  clear hg HS3
  rw [HA.out, HK.out]
  go_wp2_with fail
  refine (at_any 1 _).mono ?_
  rintro e w5 ⟨rfl, hg⟩
  have HS5 := Lib.hid (HS4.out.gr' hg)
  clear hg HS4
  go_wp2_with fail
  refine (show Calls Try.prog 19 #[.pointer (some ⟨m, 0, none⟩), .agg #[.int .i64 ((a - a % 8 : Nat) : Int), .int .i64 1, .int .i64 0], .int .i64 8, .agg #[.int .i64 1, .int .i64 1, .int .i64 0]] w5 _ from store_st ⟨((a - a % 8 : Nat) : Int), 1, 0⟩ ⟨1, 1, 0⟩ 8 HS5.out).mono ?_
  rintro e w6 ⟨rfl, hs, hkk⟩
  rw [fi1 g ha1] at hs ⊢
  have HS6 := Lib.hid hs
  clear hs hkk HS5
  go_wp2_with fail
  refine (at_any _ _).mono ?_
  rintro e w7 ⟨rfl, hg⟩
  have HS7 := Lib.hid (HS6.out.gr' hg)
  clear hg HS6
  go_wp2_with fail
  refine (show Calls Try.prog 23 #[.pointer (some ⟨m, 0, none⟩), .agg #[.int .i64 (a : Int), .int .i64 1, .int .i64 0], .agg #[.int .i64 c, .int .i64 0, .int .i64 0], .agg #[.int .i64 (k : Int), .int .i64 0, .int .i64 0]] w7 _ from fill_st ⟨a, 1, 0⟩ ⟨c, 0, 0⟩ ⟨k, 0, 0⟩ HS7.out).mono ?_
  rintro e w8 ⟨rfl, hs, hkk⟩
  clear hkk HS7
  by_cases hak : a + k ≤ 64
  · have HF := Lib.hid (show fillP [(g, putY fiB (fiM a))] ⟨a, 1, 0⟩ ⟨c, 0, 0⟩ ⟨k, 0, 0⟩ = ([(g, putY fiB (splice (fiM a) a (nums (c % 256) k)))], 0) from fill_one rfl (by omega) (by show _ ≤ (fiM a).length; rw [fiM_len ha1]; exact hak))
    rw [HF.out] at hs ⊢
    dsimp only at hs ⊢
    have HS8 := Lib.hid hs
    have e0 : decide ((a : Int) + k ≤ 64) = true := decide_eq_true (by omega)
    clear hs HF
    go_wp2_with fail
    refine (bytes_st 1 HS8.out).mono ?_
    rintro e w9 ⟨l, rfl, hl, hs, hg⟩
    rw [bytes_one] at hl
    have hlen : (splice (fiM a) a (nums (c % 256) k)).length = 64 := by rw [splice_len _ _ _ (by rw [fiM_len ha1, nums_len]; exact hak), fiM_len ha1]
    obtain ⟨q, rfl, hb⟩ : ∃ q, l = .slice (some ⟨q, 0, none⟩) 64 64 ∧ BytesAt w9 q (splice (fiM a) a (nums (c % 256) k)) := by
      rcases hl with ⟨_, h0⟩ | ⟨q, h1, h2, h3⟩
      · have h0 : splice (fiM a) a (nums (c % 256) k) = [] := h0
        rw [h0] at hlen; cases hlen
      · exact ⟨q, by rw [h1]; show Value.slice _ (splice (fiM a) a (nums (c % 256) k)).length (splice (fiM a) a (nums (c % 256) k)).length = _; rw [hlen], h3⟩
    have HB9 := Lib.hid hb
    have HS9 := Lib.hid hs
    have HLEN := Lib.hid hlen
    clear hl hs hg hb hlen HS8
    go_wp2_with fail
    go_loopw [14] (fun i wr => ∃ j : Nat, a ≤ j ∧ j ≤ a + k ∧ i = .int .i64 j ∧ wr = w9) (fun i _ => a + k - (intOf i).toNat)
    case atStart => exact ⟨a, Nat.le_refl _, by omega, rfl, rfl⟩
    case round =>
      obtain ⟨j, hj0, hj1, rfl, rfl⟩ := hrel
      by_cases hlt : j < a + k
      · obtain ⟨z, hz, c0, c1, c2, c3, c4, z0, z1, z2, z3, z4⟩ := HB9.out.open5 (o := 0) (k := j) (by rw [HLEN.out]; omega)
        rw [Nat.zero_add, splice_in (by rw [fiM_len ha1]; omega) hj0 (by rw [nums_len]; omega)] at hz
        obtain rfl : z = ⟨1, c % 256, val0⟩ := by
          unfold nums at hz
          rw [List.getElem?_replicate, if_pos (by omega)] at hz
          exact (Option.some.inj hz).symm
        simp only [Nat.zero_mul, Nat.zero_add] at c0 c1
        clear c2 c3 c4 z0 z1 z2 z3 z4 hz
        go_wp2_with fail
        go_roundw
        case rel => exact ⟨j + 1, by omega, by omega, by go_num, trivial⟩
        case measure => simp [intOf]; omega
      · by_cases hk0 : k = 0
        · subst hk0
          go_wp2_with fail
          refine (at_any _ _).mono ?_
          rintro e wa ⟨rfl, hg⟩
          have HSa := Lib.hid (HS9.out.gr' hg)
          clear hg HS9
          go_wp2_with fail
          refine (show Calls Try.prog 17 #[.pointer (some ⟨m, 0, none⟩), .agg #[.int .i64 (a : Int), .int .i64 1, .int .i64 0], .int .i64 1] wa _ from load_st ⟨a, 1, 0⟩ 1 HSa.out).mono ?_
          rintro e wb ⟨rfl, hs, hg⟩
          have HSb := Lib.hid hs
          clear hs hg HSa
          generalize loadP [(g, putY fiB (splice (fiM a) a (nums (c % 256) 0)))] ⟨a, 1, 0⟩ 1 = r
          obtain ⟨⟨rn, rb, rf⟩, re⟩ := r
          unfold valV valC
          go_wp2_with fail
          go_ret
          exact ⟨rfl, gr_alloc HSb.out.gr _⟩
        · have HL := Lib.hid (show loadP [(g, putY fiB (splice (fiM a) a (nums (c % 256) k)))] ⟨a, 1, 0⟩ 1 = (⟨c % 256, 0, 0⟩, 0) from by
            have hx : (splice (fiM a) a (nums (c % 256) k))[a]? = some ⟨1, c % 256, val0⟩ := by
              rw [splice_in (by rw [fiM_len ha1]; omega) (Nat.le_refl _) (by rw [nums_len]; omega), Nat.sub_self]
              unfold nums
              rw [List.getElem?_replicate, if_pos (by omega)]
            have h : loadP [(g, putY fiB (splice (fiM a) a (nums (c % 256) k)))] ⟨a, 1, 0⟩ 1 = decR ⟨1, c % 256, val0⟩ (segL (splice (fiM a) a (nums (c % 256) k)) a 1) := load_one (g := g) (b := putY fiB (splice (fiM a) a (nums (c % 256) k))) (a := a) (n := 1) rfl rfl (by show _ ≤ (splice (fiM a) a (nums (c % 256) k)).length; rw [HLEN.out]; omega) hx
            rw [h, seg_one hx]
            exact decR_num (by omega) (by omega))
          have ek : ((k : Int) == 0) = false := by simp; omega
          clear hk0
          go_wp2_with fail
          refine (at_any _ _).mono ?_
          rintro e wa ⟨rfl, hg⟩
          have HSa := Lib.hid (HS9.out.gr' hg)
          clear hg HS9
          go_wp2_with fail
          refine (show Calls Try.prog 17 #[.pointer (some ⟨m, 0, none⟩), .agg #[.int .i64 (a : Int), .int .i64 1, .int .i64 0], .int .i64 1] wa _ from load_st ⟨a, 1, 0⟩ 1 HSa.out).mono ?_
          rintro e wb ⟨rfl, hs, hg⟩
          have HSb := Lib.hid hs
          clear hs hg HSa
          rw [HL.out]
          unfold valV valC
          go_wp2_with fail
          go_ret
          exact ⟨rfl, gr_alloc HSb.out.gr _⟩
  · have HF := Lib.hid (show fillP [(g, putY fiB (fiM a))] ⟨a, 1, 0⟩ ⟨c, 0, 0⟩ ⟨k, 0, 0⟩ = ([(g, putY fiB (fiM a))], 9) from fill_not (by show ¬ _ ≤ (fiM a).length; rw [fiM_len ha1]; exact hak))
    rw [HF.out] at hs ⊢
    dsimp only at hs ⊢
    have HS8 := Lib.hid hs
    have e0 : decide ((a : Int) + k ≤ 64) = false := decide_eq_false (by omega)
    clear hs HF
    go_wp2_with fail
    refine (bytes_st 1 HS8.out).mono ?_
    rintro e w9 ⟨l, rfl, hl, hs, hg⟩
    rw [bytes_one] at hl
    have hlen : (fiM a).length = 64 := fiM_len ha1
    obtain ⟨q, rfl⟩ : ∃ q, l = .slice (some ⟨q, 0, none⟩) 64 64 := by
      rcases hl with ⟨_, h0⟩ | ⟨q, h1, h2, h3⟩
      · have h0 : fiM a = [] := h0
        rw [h0] at hlen; cases hlen
      · exact ⟨q, by rw [h1]; show Value.slice _ (fiM a).length (fiM a).length = _; rw [hlen]⟩
    have HS9 := Lib.hid hs
    clear hl hs hg hlen HS8
    go_wp2_with fail
    go_loopw [14] (fun i wr => i = .int .i64 a ∧ wr = w9) (fun i _ => 0)
    case atStart => exact ⟨rfl, rfl⟩
    case round =>
      obtain ⟨rfl, rfl⟩ := hrel
      go_wp2_with fail
      refine (at_any _ _).mono ?_
      rintro e wa ⟨rfl, hg⟩
      have HSa := Lib.hid (HS9.out.gr' hg)
      clear hg HS9
      go_wp2_with fail
      refine (show Calls Try.prog 17 #[.pointer (some ⟨m, 0, none⟩), .agg #[.int .i64 (a : Int), .int .i64 1, .int .i64 0], .int .i64 1] wa _ from load_st ⟨a, 1, 0⟩ 1 HSa.out).mono ?_
      rintro e wb ⟨rfl, hs, hg⟩
      have HSb := Lib.hid hs
      clear hs hg HSa
      generalize loadP [(g, putY fiB (fiM a))] ⟨a, 1, 0⟩ 1 = r
      obtain ⟨⟨rn, rb, rf⟩, re⟩ := r
      unfold valV valC
      go_wp2_with fail
      go_ret
      exact ⟨rfl, gr_alloc HSb.out.gr _⟩

end Go.Proofs.Ytblhnjoophhliaa
