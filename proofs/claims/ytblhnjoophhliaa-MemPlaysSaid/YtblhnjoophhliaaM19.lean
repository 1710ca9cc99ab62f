/- mem: well; what is stored is loaded, in plain words. -/
import Derived.Test.YtblhnjoophhliaaM18
namespace Go.Proofs.Ytblhnjoophhliaa
open Go.RowKit
def welB (v : Val) : Bool := decide (0 ≤ v.b ∧ 0 ≤ v.f ∧ v.f ≤ 8 ∧ (0 < v.b ∨ v.f = 0))
set_option maxRecDepth 100000 in
set_option maxHeartbeats 2000000 in
theorem well_any (v : Val) (w : World) :
    Calls Try.prog 12 #[valV v] w fun e w' => e = .returned (.bool (welB v)) ∧ w.grownBy w' none := by
  obtain ⟨n, b, f⟩ := v
  unfold valV valC welB
  dsimp only
  by_cases h0 : 0 ≤ b
  · by_cases h1 : 0 ≤ f
    · by_cases h2 : f ≤ 8
      · by_cases h3 : 0 < b
        · rw [decide_eq_true ⟨h0, h1, h2, .inl h3⟩]
          go_enter Try.func12, Try.ntmps12
          go_wp2_with fail
          go_ret
          exact ⟨rfl, by repeat (first | with_reducible exact grownBy_refl _ _ | with_reducible assumption | with_reducible refine World.grownBy.gr_drew ?_ | with_reducible refine World.grownBy.gr_set ?_ (by simp) _ | with_reducible refine gr_alloc ?_ _)⟩
        · by_cases h4 : f = 0
          · rw [decide_eq_true ⟨h0, h1, h2, .inr h4⟩]
            subst h4
            go_enter Try.func12, Try.ntmps12
            go_wp2_with fail
            go_ret
            exact ⟨rfl, by repeat (first | with_reducible exact grownBy_refl _ _ | with_reducible assumption | with_reducible refine World.grownBy.gr_drew ?_ | with_reducible refine World.grownBy.gr_set ?_ (by simp) _ | with_reducible refine gr_alloc ?_ _)⟩
          · rw [decide_eq_false (fun h => h.2.2.2.elim h3 h4)]
            have e4 : (f == 0) = false := by simpa using h4
            clear h4
            go_enter Try.func12, Try.ntmps12
            go_wp2_with fail
            go_ret
            exact ⟨rfl, by repeat (first | with_reducible exact grownBy_refl _ _ | with_reducible assumption | with_reducible refine World.grownBy.gr_drew ?_ | with_reducible refine World.grownBy.gr_set ?_ (by simp) _ | with_reducible refine gr_alloc ?_ _)⟩
      · rw [decide_eq_false (fun h => h2 h.2.2.1)]
        go_enter Try.func12, Try.ntmps12
        go_wp2_with fail
        go_ret
        exact ⟨rfl, by repeat (first | with_reducible exact grownBy_refl _ _ | with_reducible assumption | with_reducible refine World.grownBy.gr_drew ?_ | with_reducible refine World.grownBy.gr_set ?_ (by simp) _ | with_reducible refine gr_alloc ?_ _)⟩
    · rw [decide_eq_false (fun h => h1 h.2.1)]
      go_enter Try.func12, Try.ntmps12
      go_wp2_with fail
      go_ret
      exact ⟨rfl, by repeat (first | with_reducible exact grownBy_refl _ _ | with_reducible assumption | with_reducible refine World.grownBy.gr_drew ?_ | with_reducible refine World.grownBy.gr_set ?_ (by simp) _ | with_reducible refine gr_alloc ?_ _)⟩
  · rw [decide_eq_false (fun h => h0 h.1)]
    go_enter Try.func12, Try.ntmps12
    go_wp2_with fail
    go_ret
    exact ⟨rfl, by repeat (first | with_reducible exact grownBy_refl _ _ | with_reducible assumption | with_reducible refine World.grownBy.gr_drew ?_ | with_reducible refine World.grownBy.gr_set ?_ (by simp) _ | with_reducible refine gr_alloc ?_ _)⟩
theorem emod_step (n : Int) {a b : Int} (ha : 0 < a) (hb : 0 < b) : n % (a * b) = n % a + a * (n / a % b) := by
  have e1 := Int.emod_add_mul_ediv n a
  have e2 := Int.emod_add_mul_ediv (n / a) b
  have h1 := Int.emod_nonneg n (Int.ne_of_gt ha)
  have h2 := Int.emod_lt_of_pos n ha
  have h3 := Int.emod_nonneg (n / a) (Int.ne_of_gt hb)
  have h4 := Int.emod_lt_of_pos (n / a) hb
  have hlt : n % a + a * (n / a % b) < a * b := by
    have : a * (n / a % b) ≤ a * (b - 1) := Int.mul_le_mul_of_nonneg_left (by omega) (by omega)
    rw [Int.mul_sub, Int.mul_one] at this
    omega
  have hge : 0 ≤ n % a + a * (n / a % b) := Int.add_nonneg h1 (Int.mul_nonneg (by omega) h3)
  have e : n = n % a + a * (n / a % b) + a * b * (n / a / b) := by
    conv => lhs; rw [← e1]
    conv => lhs; rw [← e2]
    rw [Int.mul_add, Int.mul_assoc, Int.add_assoc]
  conv => lhs; rw [e]
  rw [Int.add_mul_emod_self_left, Int.emod_eq_of_lt hge hlt]
theorem byteOf_nat (n : Int) (i : Nat) : ((byteOf n i).toNat : Int) = byteOf n i := by have := byteOf_byte n i; omega
theorem sum_numL (n : Int) : ∀ k : Nat, (sumN (numL n k) : Int) = n % 256 ^ k
  | 0 => by simp [numL, sumN, Int.emod_one]
  | k + 1 => by
    rw [← numL_succ, sumN_snoc, numL_len]
    have h := emod_step n (a := 256 ^ k) (b := 256) (Int.pow_pos (by omega)) (by omega)
    rw [Int.pow_succ, h, ← sum_numL n k]
    have e1 : ((sumN (numL n k) + 256 ^ k * (byteOf n k).toNat : Nat) : Int) = (sumN (numL n k) : Int) + 256 ^ k * byteOf n k := by
      rw [Int.natCast_add, Int.natCast_mul, Int.natCast_pow, byteOf_nat]; rfl
    rw [e1]
    unfold byteOf
    rw [Int.pow_mul, show (2 : Int) ^ 8 = 256 from rfl]
theorem numL_all (n : Int) (k : Nat) : allN (numL n k) = true := by
  unfold allN numL
  simp
theorem sumN_num {n : Int} {k : Nat} : (sumN (numL n k) : Int) = n % 256 ^ k := sum_numL n k
theorem numP_numL (n : Int) (k : Nat) : numP (numL n k) = (⟨if k = 4 then wrap64 (wrap32 (n % 256 ^ k)) else wrap64 (n % 256 ^ k), 0, 0⟩, true) := by
  unfold numP sgnI
  rw [if_pos (numL_all n k), numL_len, sum_numL]
theorem ptrP_ptrL (n b : Int) (hb : 0 < b) : ptrP ⟨2, 0, ⟨n, b, 1⟩⟩ (ptrL ⟨n, b, 0⟩ 8) = (⟨n, b, 0⟩, true) := by
  unfold ptrP ptr0
  rw [if_pos ⟨decide_eq_true ⟨hb, rfl⟩, by rw [ptrL_len]⟩]
/-- What is stored is loaded. -/
def backV (v : Val) (w : Nat) : Val :=
  if v.b = 0 then ⟨if w = 4 then wrap64 (wrap32 (v.n % 256 ^ w)) else wrap64 (v.n % 256 ^ w), 0, 0⟩ else v
theorem dec_back {v : Val} {w : Nat} {l : List Byt} (hv : welB v = true) (hw : 1 ≤ w) (hl : encP w v = some l) {x : Byt} (hx : l[0]? = some x) : decR x l = (backV v w, 0) := by
  have hv := of_decide_eq_true (show decide _ = true from hv)
  obtain ⟨vn, vb, vf⟩ := v
  dsimp only at hv
  have key : decP x l = (backV ⟨vn, vb, vf⟩ w, true) := by
    unfold encP at hl
    by_cases h1 : numB ⟨vn, vb, vf⟩ = true
    · rw [if_pos h1] at hl
      injection hl with hl
      subst hl
      have h1 := of_decide_eq_true (show decide _ = true from h1)
      dsimp only at h1
      have hx : x = ⟨1, byteOf vn 0, val0⟩ := by
        unfold numL at hx
        rw [List.getElem?_map, List.getElem?_range (by omega)] at hx
        exact (Option.some.inj hx).symm
      unfold decP
      rw [if_pos (by rw [hx]), numP_numL]
      unfold backV
      rw [if_pos h1.1]
    · rw [if_neg h1] at hl
      have h1' : numB ⟨vn, vb, vf⟩ = false := by simpa using h1
      have h1 := of_decide_eq_false (show decide _ = false from h1')
      dsimp only at h1
      have hb : vb ≠ 0 := by omega
      by_cases h2 : ptrB ⟨vn, vb, vf⟩ = true ∧ w = 8
      · rw [if_pos h2] at hl
        injection hl with hl
        subst hl
        have h3 := of_decide_eq_true (show decide _ = true from h2.1)
        dsimp only at h3
        obtain rfl : vf = 0 := h3.2
        have hx : x = ⟨2, 0, ⟨vn, vb, 1⟩⟩ := (Option.some.inj hx).symm
        subst hx
        unfold decP
        rw [if_neg (by show ¬ (2 : Int) = 1; omega), if_neg (by rw [ptrL_len]; simp), if_pos ⟨rfl, ptrL_len _ _⟩, ptrP_ptrL _ _ h3.1]
        unfold backV
        rw [if_neg hb]
      · rw [if_neg h2] at hl
        by_cases h3 : partB ⟨vn, vb, vf⟩ = true ∧ w = 1
        · rw [if_pos h3] at hl
          injection hl with hl
          subst hl
          have hx : x = ⟨2, 0, ⟨vn, vb, vf⟩⟩ := (Option.some.inj hx).symm
          subst hx
          unfold decP
          rw [if_neg (by show ¬ (2 : Int) = 1; omega), if_pos ⟨rfl, rfl⟩]
          unfold backV
          rw [if_neg hb]
        · rw [if_neg h3] at hl
          cases hl
  unfold decR
  rw [key]
  rfl
/-- A byte that holds something is loaded alone. -/
theorem dec_one {x : Byt} (h : x.k = 1 ∨ x.k = 2) : (decR x [x]).2 = 0 := by
  have key : (decP x [x]).2 = true := by
    unfold decP
    by_cases h1 : x.k = 1
    · rw [if_pos h1]
      unfold numP
      rw [if_pos (by simp [allN, h1])]
    · rw [if_neg h1, if_pos ⟨h.resolve_left h1, rfl⟩]
  unfold decR
  rw [if_pos key]
def Held (M : List Byt) : Prop := ∀ b ∈ M, b.k = 1 ∨ b.k = 2
theorem encP_held {n : Nat} {v : Val} {l : List Byt} (h : encP n v = some l) : Held l := by
  unfold encP at h
  intro b hb
  split at h
  · injection h with h; subst h
    obtain ⟨i, _, rfl⟩ := List.mem_map.1 hb
    exact .inl rfl
  · split at h
    · injection h with h; subst h
      obtain ⟨i, _, rfl⟩ := List.mem_map.1 hb
      exact .inr rfl
    · split at h
      · injection h with h; subst h
        obtain rfl := List.mem_singleton.1 hb
        exact .inr rfl
      · cases h
theorem splice_held {M l : List Byt} (hM : Held M) (hl : Held l) (o : Nat) : Held (splice M o l) := by
  intro b hb
  unfold splice at hb
  rcases List.mem_append.1 hb with h | h
  · exact hM b (List.mem_of_mem_take h)
  · rcases List.mem_append.1 h with h | h
    · exact hl b h
    · exact hM b (List.mem_of_mem_drop h)
theorem load_byte {g : Nat} {b : Blk} {q : Int} (hb : b.live = true) (hh : Held b.bytes) : loadP [(g, b)] ⟨q, 1, 0⟩ 1 = if 0 ≤ q ∧ q < b.bytes.length then ((loadP [(g, b)] ⟨q, 1, 0⟩ 1).1, 0) else (val0, 9) := by
  by_cases h : 0 ≤ q ∧ q < b.bytes.length
  · rw [if_pos h]
    obtain ⟨a, rfl⟩ : ∃ a : Nat, q = a := ⟨q.toNat, by omega⟩
    have ha : a < b.bytes.length := by omega
    have hx := List.getElem?_eq_getElem ha
    have e : loadP [(g, b)] ⟨a, 1, 0⟩ 1 = decR b.bytes[a] (segL b.bytes a 1) := load_one (n := 1) hb rfl (by omega) hx
    rw [e, seg_one hx]
    exact Prod.ext rfl (dec_one (hh _ (List.getElem_mem ha)))
  · rw [if_neg h]
    unfold loadP
    rw [if_neg (by simp [widB]), cut_one, if_neg (by
      rintro ⟨_, h2⟩
      have := of_decide_eq_true (show decide _ = true from h2)
      omega)]
/-- What MemBack asks, of a block of bytes that hold numbers. -/
theorem back_stored {g : Nat} {b : Blk} {q : Int} {w : Int} {v : Val} {L : List (Nat × Blk)} (hs : storeP [(g, b)] ⟨q, 1, 0⟩ w v = (L, 0)) :
    ∃ (a n : Nat) (l : List Byt), q = a ∧ w = n ∧ 1 ≤ n ∧ n ≤ 8 ∧ a + n ≤ b.bytes.length ∧ encP n v = some l ∧ L = [(g, putY b (splice b.bytes a l))] := by
  unfold storeP at hs
  rcases hw : widB w
  · rw [if_pos hw] at hs
    have := congrArg Prod.snd hs
    cases this
  · rw [if_neg (by rw [hw]; simp), cut_one] at hs
    obtain ⟨n, rfl, h1, h8⟩ := widB_true hw
    by_cases hc : b.live = true ∧ witB b.bytes.length q n = true
    · rw [if_pos hc] at hs
      obtain ⟨a, rfl, ha⟩ := witB_nat hc.2
      simp only [List.getElem?_cons_zero, Int.toNat_natCast] at hs
      rcases hl : encP n v with _ | l
      · rw [hl] at hs
        have := congrArg Prod.snd hs
        cases this
      · rw [hl] at hs
        exact ⟨a, n, l, rfl, rfl, h1, h8, ha, hl, (congrArg Prod.fst hs).symm⟩
    · rw [if_neg hc] at hs
      have := congrArg Prod.snd hs
      cases this

theorem back_facts {g : Nat} {b : Blk} {q w : Int} {v : Val} {L : List (Nat × Blk)} (hb : b.live = true) (hh : Held b.bytes) (hv : welB v = true) (hs : storeP [(g, b)] ⟨q, 1, 0⟩ w v = (L, 0)) (o : Int) :
    (∃ n : Nat, w = n ∧ (n = 1 ∨ n = 4 ∨ n = 8) ∧ loadP L ⟨q, 1, 0⟩ w = (backV v n, 0)) ∧ (loadP [(g, b)] ⟨o, 1, 0⟩ 1).2 = (loadP L ⟨o, 1, 0⟩ 1).2 ∧ (o < q ∨ q + w ≤ o → (loadP L ⟨o, 1, 0⟩ 1).1 = (loadP [(g, b)] ⟨o, 1, 0⟩ 1).1) := by
  have hwb : widB w = true := by
    rcases hw : widB w
    · unfold storeP at hs
      rw [if_pos hw] at hs
      have := congrArg Prod.snd hs
      cases this
    · rfl
  obtain ⟨a, n, l, rfl, rfl, h1, h8, ha, hl, rfl⟩ := back_stored hs
  have hll := encP_len hl
  have hlen : (splice b.bytes a l).length = b.bytes.length := splice_len _ _ _ (by rw [hll]; exact ha)
  have hh2 : Held (splice b.bytes a l) := splice_held hh (encP_held hl) a
  have hb2 : (putY b (splice b.bytes a l)).live = true := hb
  obtain ⟨x, hx⟩ : ∃ x, l[0]? = some x := ⟨_, List.getElem?_eq_getElem (by omega)⟩
  have hxa : (splice b.bytes a l)[a]? = some x := by rw [splice_in (by omega) (Nat.le_refl _) (by omega), Nat.sub_self, hx]
  have hseg : segL (splice b.bytes a l) a n = l := by
    unfold segL splice
    rw [List.drop_append, List.drop_of_length_le (by rw [List.length_take]; omega), List.nil_append, List.length_take, Nat.min_eq_left (by omega), Nat.sub_self, List.drop_zero, ← hll, List.take_left']
    rfl
  refine ⟨⟨n, rfl, ?_, ?_⟩, ?_, ?_⟩
  · have := of_decide_eq_true (show decide _ = true from hwb)
    omega
  · rw [load_one hb2 hwb (by show _ ≤ (splice b.bytes a l).length; rw [hlen]; exact ha) hxa]
    show decR x (segL (splice b.bytes a l) a n) = _
    rw [hseg]
    exact dec_back hv h1 hl hx
  · have e1 := load_byte (g := g) (q := o) hb hh
    have e2 := load_byte (g := g) (q := o) hb2 hh2
    rw [e1, e2]
    have : (putY b (splice b.bytes a l)).bytes.length = b.bytes.length := hlen
    rw [this]
    by_cases h : 0 ≤ o ∧ o < b.bytes.length
    · rw [if_pos h, if_pos h]
    · rw [if_neg h, if_neg h]
  · intro ho
    by_cases h : 0 ≤ o ∧ o < b.bytes.length
    · obtain ⟨c, rfl⟩ : ∃ c : Nat, o = c := ⟨o.toNat, by omega⟩
      have hc : c < b.bytes.length := by omega
      have hy := List.getElem?_eq_getElem hc
      have hy2 : (splice b.bytes a l)[c]? = some b.bytes[c] := by rw [splice_out (by omega) (by omega), hy]
      have e1 : loadP [(g, b)] ⟨c, 1, 0⟩ 1 = decR b.bytes[c] (segL b.bytes c 1) := load_one (n := 1) hb rfl (by omega) hy
      have e2 : loadP [(g, putY b (splice b.bytes a l))] ⟨c, 1, 0⟩ 1 = decR b.bytes[c] (segL (splice b.bytes a l) c 1) := load_one (n := 1) hb2 rfl (by show _ ≤ (splice b.bytes a l).length; omega) hy2
      rw [e1, e2, seg_one hy, seg_one hy2]
    · have e1 := load_byte (g := g) (q := o) hb hh
      have e2 := load_byte (g := g) (q := o) hb2 hh2
      rw [e1, e2, if_neg h]
      have : (putY b (splice b.bytes a l)).bytes.length = b.bytes.length := hlen
      rw [this, if_neg h]

end Go.Proofs.Ytblhnjoophhliaa
