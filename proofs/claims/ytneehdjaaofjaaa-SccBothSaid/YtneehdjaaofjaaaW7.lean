/- SccBoth, walked. -/
import Derived.Test.YtneehdjaaofjaaaW6
namespace Go.Proofs.Ytneehdjaaofjaaa
open Go.RowKit
theorem re_one {N : Nat} {E : List Edg} {a b : Nat} {X : List Int} (h : IsRe N (prs N E) [(a : Int)] X) (ha : a < N) : (b : Int) ∈ X ↔ Lds (prs N E) a b := by
  rw [h.2]
  constructor
  · rintro ⟨x, y, hx, _, hl, e⟩
    have h1 : (x : Int) = a := by simpa using hx
    have h2 : x = a := by omega
    have h3 : b = y := by omega
    rw [← h2, h3]
    exact hl
  · intro hl
    exact ⟨a, b, by simp, ha, hl, rfl⟩
theorem gr_same {N : Nat} {ps : List (Nat × Nat)} {G : List Int} (h : IsGr N ps G) {a b : Nat} {x y : Int} (ha : a < N) (hb : b < N) (hx : G[a]? = some x) (hy : G[b]? = some y) : x = y ↔ Mut ps a b := by
  obtain ⟨u, hu, htu⟩ := h.2 a ha
  obtain ⟨v, hv, htv⟩ := h.2 b hb
  rw [hx] at hu
  rw [hy] at hv
  injection hu with hu
  injection hv with hv
  subst hu hv
  constructor
  · intro e
    have : u = v := by omega
    subst this
    exact htu.alike htv
  · intro hm
    rw [(htu.of_mut hm).same htv]
theorem mem_take_next {X : List Int} {k : Nat} {x b : Int} (h : X[k]? = some x) : b ∈ X.take (k + 1) ↔ b ∈ X.take k ∨ x = b := by
  rw [List.take_add_one, h]
  simp [eq_comm]
set_option maxRecDepth 100000 in
set_option maxHeartbeats 4000000 in
theorem both_walk (n : Int) (A : Option Addr) (c0 : Nat) (E0 : List Edg) (a b : Int) (w : World) (hE : EdsAt w A E0) (hc : E0.length ≤ c0) :
    Calls Try.prog 6 #[.int .i64 n, .slice A E0.length c0, .int .i64 a, .int .i64 b] w fun e w' => e = .returned (.bool true) ∧ w.grownBy w' none := by
  have HE0 := Lib.hid hE
  clear hE
  go_enter Try.func6, Try.ntmps6
  go_wp2_with fail
  refine (sh15_any w).mono ?_
  rintro e w1 ⟨rfl, hg⟩
  have HG1 := Lib.hid hg
  clear hg
  go_wp2_with fail
  refine (few15_any n A c0 E0 w1 (HE0.out.keep HG1.out) hc).mono ?_
  rintro e w2 ⟨d, rfl, rfl⟩
  have hN := szE60 n
  have HE1 := Lib.hid ((HE0.out.keep HG1.out).take 200)
  have hel : (E0.take 200).length ≤ 200 := by rw [List.length_take]; omega
  generalize (if 60 < n then 60 else n) = m at *
  generalize E0.take 200 = E at *
  clear HE0
  go_wp2_with fail
  refine (Groups15 m A d E w1 HE1.out (by omega)).mono ?_
  rintro e w2 ⟨G, hG, A1, n1, c1, rfl, hI, hg, _⟩
  have HGR := Lib.hid hG
  have HI2 := Lib.hid hI
  have HG2 := Lib.hid (grownBy_trans HG1.out hg)
  have HE2 := Lib.hid (HE1.out.keep hg)
  obtain rfl : n1 = szE m := by rw [hI.len, hG.1]
  clear hG hI hg HG1 HE1
  obtain ⟨N, hNN⟩ : ∃ N, N = szE m := ⟨_, rfl⟩
  have HNN := Lib.hid hNN
  rw [← hNN] at HGR HI2 hN ⊢
  clear hNN
  by_cases h1 : a < 0
  · go_wp2_with fail
    go_ret
    exact ⟨rfl, HG2.out⟩
  by_cases h2 : (N : Int) ≤ a
  · go_wp2_with fail
    go_ret
    exact ⟨rfl, HG2.out⟩
  by_cases h3 : b < 0
  · go_wp2_with fail
    go_ret
    exact ⟨rfl, HG2.out⟩
  by_cases h4 : (N : Int) ≤ b
  · go_wp2_with fail
    go_ret
    exact ⟨rfl, HG2.out⟩
  obtain ⟨p, rfl⟩ : ∃ p : Nat, a = p := ⟨a.toNat, by omega⟩
  obtain ⟨q, rfl⟩ : ∃ p : Nat, b = p := ⟨b.toNat, by omega⟩
  have hp : p < N := by omega
  have hq : q < N := by omega
  clear h1 h2 h3 h4
  go_wp2_with fail
  have hga := gr_alloc (grownBy_refl w2 none) (.cells #[.int .i64 p] 3)
  refine (show Calls Try.prog 16 #[.int .i64 m, .slice A E.length d, .slice (some ⟨w2.heap.size, 0, none⟩) 1 1] (w2.alloc (.cells #[.int .i64 p] 3)) _ from Reach15 m A _ d 1 1 E [(p : Int)] _ (HE2.out.keep hga) (IntsAt.new w2 [(p : Int)] 3 _ 1 _ rfl rfl) (by omega) (by simp)).mono ?_
  rintro e w3 ⟨X, hR, A2, n2, c2, rfl, hI, hg, _⟩
  rw [← HNN.out] at hR
  have HRX := Lib.hid hR
  have HX3 := Lib.hid hI
  obtain rfl : n2 = X.length := hI.len
  have hgg := grownBy_trans hga hg
  have HG3 := Lib.hid (grownBy_trans HG2.out hgg)
  have HE3 := Lib.hid (HE2.out.keep hgg)
  have HI3 := Lib.hid (HI2.out.keep hgg)
  have hXl := HRX.out.len
  clear hR hI hg hga hgg HG2 HE2 HI2
  go_wp2_with fail
  have hga := gr_alloc (grownBy_refl w3 none) (.cells #[.int .i64 q] 3)
  refine (show Calls Try.prog 16 #[.int .i64 m, .slice A E.length d, .slice (some ⟨w3.heap.size, 0, none⟩) 1 1] (w3.alloc (.cells #[.int .i64 q] 3)) _ from Reach15 m A _ d 1 1 E [(q : Int)] _ (HE3.out.keep hga) (IntsAt.new w3 [(q : Int)] 3 _ 1 _ rfl rfl) (by omega) (by simp)).mono ?_
  rintro e w4 ⟨Y, hR, A3, n3, c3, rfl, hI, hg, _⟩
  rw [← HNN.out] at hR
  have HRY := Lib.hid hR
  have HY4 := Lib.hid hI
  obtain rfl : n3 = Y.length := hI.len
  have hgg := grownBy_trans hga hg
  have HG4 := Lib.hid (grownBy_trans HG3.out hgg)
  have HX4 := Lib.hid (HX3.out.keep hgg)
  have HI4 := Lib.hid (HI3.out.keep hgg)
  have hYl := HRY.out.len
  clear hR hI hg hga hgg HG3 HE3 HI3 HX3
  go_wp2_with fail
  go_loopw [15, 13] (fun i f wi => ∃ (k : Nat) (t : Bool), k ≤ X.length ∧ i = .int .i64 k ∧ f = .bool t ∧ w4 = wi ∧ Hid (t = true ↔ (q : Int) ∈ X.take k)) (fun i _ _ => X.length - (intOf i).toNat)
  case atStart => exact ⟨0, false, Nat.zero_le _, rfl, rfl, rfl, by show _ ↔ _; simp⟩
  case round =>
    obtain ⟨k, t, hk, rfl, rfl, hwr, HT⟩ := hrel
    subst hwr
    by_cases hkx : k < X.length
    · obtain ⟨x, hx⟩ : ∃ x, X[k]? = some x := ⟨_, List.getElem?_eq_getElem hkx⟩
      obtain ⟨ad, rfl, hx9⟩ := HX4.out.at_ hkx
      clear hx9
      have hcx := HX4.out.cellOf hx
      have HN := Lib.hid (mem_take_next (b := (q : Int)) hx)
      clear hx
      cases t with
      | true =>
        go_wp2_with fail
        go_roundw
        case rel => exact ⟨k + 1, true, by omega, by go_num, (by first | rfl | trivial), (by first | rfl | trivial), ⟨fun _ => HN.out.2 (.inl (HT.out.1 rfl)), fun _ => rfl⟩⟩
        case measure => simp [intOf]; omega
      | false =>
        by_cases hxb : x = (q : Int)
        · have e1 : (x == (q : Int)) = true := by simp [hxb]
          have HXB := Lib.hid hxb
          clear hxb
          go_wp2_with fail
          go_roundw
          case rel => exact ⟨k + 1, true, by omega, by go_num, (by first | rfl | trivial), (by first | rfl | trivial), ⟨fun _ => HN.out.2 (.inr HXB.out), fun _ => rfl⟩⟩
          case measure => simp [intOf]; omega
        · have e1 : (x == (q : Int)) = false := by simp [hxb]
          have HXB := Lib.hid hxb
          clear hxb
          go_wp2_with fail
          go_roundw
          case rel => exact ⟨k + 1, false, by omega, by go_num, (by first | rfl | trivial), (by first | rfl | trivial), ⟨fun h => (by cases h), fun h => by
            rcases HN.out.1 h with h | h
            · exact HT.out.2 h
            · exact absurd h HXB.out⟩⟩
          case measure => simp [intOf]; omega
    · obtain rfl : k = X.length := by omega
      have HT1 := Lib.hid (show t = true ↔ (q : Int) ∈ X by have := HT.out; rwa [List.take_length] at this)
      clear HT hkx hk
      go_wp2_with fail
      go_loopw [16, 14] (fun i f wi => ∃ (k : Nat) (t : Bool), k ≤ Y.length ∧ i = .int .i64 k ∧ f = .bool t ∧ w4 = wi ∧ Hid (t = true ↔ (p : Int) ∈ Y.take k)) (fun i _ _ => Y.length - (intOf i).toNat)
      case atStart => exact ⟨0, false, Nat.zero_le _, rfl, rfl, rfl, by show _ ↔ _; simp⟩
      case round =>
        obtain ⟨k, s, hk, rfl, rfl, hwr, HT⟩ := hrel
        subst hwr
        by_cases hkx : k < Y.length
        · obtain ⟨x, hx⟩ : ∃ x, Y[k]? = some x := ⟨_, List.getElem?_eq_getElem hkx⟩
          obtain ⟨ad, rfl, hx9⟩ := HY4.out.at_ hkx
          clear hx9
          have hcx := HY4.out.cellOf hx
          have HN := Lib.hid (mem_take_next (b := (p : Int)) hx)
          clear hx
          cases s with
          | true =>
            go_wp2_with fail
            go_roundw
            case rel => exact ⟨k + 1, true, by omega, by go_num, (by first | rfl | trivial), (by first | rfl | trivial), ⟨fun _ => HN.out.2 (.inl (HT.out.1 rfl)), fun _ => rfl⟩⟩
            case measure => simp [intOf]; omega
          | false =>
            by_cases hxb : x = (p : Int)
            · have e1 : (x == (p : Int)) = true := by simp [hxb]
              have HXB := Lib.hid hxb
              clear hxb
              go_wp2_with fail
              go_roundw
              case rel => exact ⟨k + 1, true, by omega, by go_num, (by first | rfl | trivial), (by first | rfl | trivial), ⟨fun _ => HN.out.2 (.inr HXB.out), fun _ => rfl⟩⟩
              case measure => simp [intOf]; omega
            · have e1 : (x == (p : Int)) = false := by simp [hxb]
              have HXB := Lib.hid hxb
              clear hxb
              go_wp2_with fail
              go_roundw
              case rel => exact ⟨k + 1, false, by omega, by go_num, (by first | rfl | trivial), (by first | rfl | trivial), ⟨fun h => (by cases h), fun h => by
                rcases HN.out.1 h with h | h
                · exact HT.out.2 h
                · exact absurd h HXB.out⟩⟩
              case measure => simp [intOf]; omega
        · obtain rfl : k = Y.length := by omega
          have HT2 := Lib.hid (show s = true ↔ (p : Int) ∈ Y by have := HT.out; rwa [List.take_length] at this)
          clear HT hkx hk
          obtain ⟨x, hx⟩ : ∃ x, G[p]? = some x := ⟨_, List.getElem?_eq_getElem (by rw [HGR.out.1]; exact hp)⟩
          obtain ⟨y, hy⟩ : ∃ x, G[q]? = some x := ⟨_, List.getElem?_eq_getElem (by rw [HGR.out.1]; exact hq)⟩
          obtain ⟨ad, rfl, hx9⟩ := HI4.out.at_ (show p < G.length by rw [HGR.out.1]; exact hp)
          clear hx9
          have hcx := HI4.out.cellOf hx
          have hcy := HI4.out.cellOf hy
          obtain ⟨r, hr⟩ : ∃ r : Bool, (x == y) = r := ⟨_, rfl⟩
          have HR := Lib.hid (show r = (t && s) by
            have h1 := gr_same HGR.out hp hq hx hy
            have h2 := re_one (b := q) HRX.out hp
            have h3 := re_one (b := p) HRY.out hq
            rw [← hr, Bool.eq_iff_iff, Bool.and_eq_true, HT1.out, HT2.out, beq_iff_eq, h1, h2, h3]
            rfl)
          clear hx hy
          go_upto_region 18 with fail
          cases t
          · go_quiet (fail)
            go_wp2_with fail
            go_ret
            exact ⟨by rw [HR.out]; cases s <;> rfl, gr_drewN HG4.out _⟩
          · go_quiet (fail)
            go_wp2_with fail
            go_ret
            exact ⟨by rw [HR.out]; cases s <;> rfl, gr_drewN HG4.out _⟩

end Go.Proofs.Ytneehdjaaofjaaa
