/- The document's memory: Add. -/
import Derived.Test.YtblhnjoophhliaaM26
namespace Go.Proofs.Ytblhnjoophhliaa
open Go.RowKit
def addBs (bs : List Blk) (v : Val) (n : Int) : Val × Int :=
  if numB v = true then (⟨wrap64 (v.n + n), v.b, v.f⟩, 0) else
  match findI bs.length v.b with
  | none => (val0, 9)
  | some k => match bs[k]? with
    | none => (val0, 9)
    | some x => if ptrB v = true ∧ witB x.bytes.length v.n n = true then (⟨v.n + n, v.b, v.f⟩, 0) else (val0, 9)
theorem add_B (L : List (Nat × Blk)) (v : Val) (n : Int) : addP L v n = addBs (L.map (·.2)) v n := by
  unfold addP addBs
  rw [List.length_map]
  by_cases h : numB v = true
  · rw [if_pos h, if_pos h]
  · rw [if_neg h, if_neg h]
    rcases findI L.length v.b with _ | k
    · rfl
    · simp only [List.getElem?_map]
      rcases L[k]? with _ | x <;> rfl
theorem numB_zero {v : Val} (h : numB v = true) : v.b = 0 ∧ v.f = 0 := of_decide_eq_true (show decide _ = true from h)
theorem ptrB_zero {v : Val} (h : ptrB v = true) : 0 < v.b ∧ v.f = 0 := of_decide_eq_true (show decide _ = true from h)
set_option maxRecDepth 100000 in
set_option maxHeartbeats 4000000 in
theorem rAdd_num (m : Value) (v : Val) (n : Int) (w : World) (hv : numB v = true) :
    Calls Try.prog 26 #[m, valV v, .int .i64 n] w fun e w' => e = .returned (.tuple #[valV ⟨wrap64 (v.n + n), v.b, v.f⟩, .int .i64 0]) ∧ w.grownBy w' none := by
  have HW := Lib.hid hv
  obtain ⟨hb, hf⟩ := numB_zero hv
  obtain ⟨vn, vb, vf⟩ := v
  unfold valV valC
  dsimp only at hb hf ⊢
  subst hb hf
  have HV0 := Lib.hid (P2.new w vn 0 0 0 0 0)
  clear hv
  go_enter Try.func26, Try.ntmps26
  go_wp2_with fail
  refine (show Calls Try.prog 45 #[.agg #[.int .i64 vn, .int .i64 0, .int .i64 0]] _ _ from r10_Number_any ⟨vn, 0, 0⟩ _).mono ?_
  rintro e w1 ⟨rfl, g1⟩
  have HV1 := Lib.hid (HV0.out.grown g1)
  clear g1
  obtain ⟨x0, x1, x2, z0, z1, z2, hz⟩ := P2.r0 HV1.out
  obtain ⟨y0, y1, y2, f0, f1, f2⟩ := P2.r1 HV1.out
  rw [HW.out]
  go_wp2_with fail
  exact bodyPost_ret (v := .tuple #[.agg #[.int .i64 (wrap64 (vn + n)), .int .i64 0, .int .i64 0], .int .i64 0]) (by simp [results, Try.results26, go_sem, y0, y1, y2]) rfl ⟨rfl, by have := HV1.out.gr; repeat (first | with_reducible exact grownBy_refl _ _ | with_reducible assumption | with_reducible refine World.grownBy.gr_drew ?_ | with_reducible refine World.grownBy.gr_set ?_ (by simp) _ | with_reducible refine gr_alloc ?_ _)⟩
set_option maxRecDepth 100000 in
set_option maxHeartbeats 4000000 in
theorem rAdd_none {S : Nat → Prop} {ad : Option Addr} {rs : List RB} (cap : Nat) (v : Val) (n : Int) (w : World) (_h : RefAt S w ad rs) (hv : numB v = false) (hf : ptrB v = false ∨ findI rs.length v.b = none) :
    Calls Try.prog 26 #[.slice ad rs.length cap, valV v, .int .i64 n] w fun e w' => e = .returned (.tuple #[valV val0, .int .i64 9]) ∧ w.grownBy w' none := by
  have HW := Lib.hid hv
  have HF := Lib.hid hf
  obtain ⟨vn, vb, vf⟩ := v
  unfold valV valC
  dsimp only at *
  have HV0 := Lib.hid (P2.new w vn vb vf 0 0 0)
  clear hv hf
  go_enter Try.func26, Try.ntmps26
  go_wp2_with fail
  refine (show Calls Try.prog 45 #[.agg #[.int .i64 vn, .int .i64 vb, .int .i64 vf]] _ _ from r10_Number_any ⟨vn, vb, vf⟩ _).mono ?_
  rintro e w1 ⟨rfl, g1⟩
  have HV1 := Lib.hid (HV0.out.grown g1)
  clear g1
  obtain ⟨x0, x1, x2, z0, z1, z2, hz⟩ := P2.r0 HV1.out
  rw [HW.out]
  go_wp2_with fail
  refine (show Calls Try.prog 40 #[.agg #[.int .i64 vn, .int .i64 vb, .int .i64 vf]] _ _ from r10_Pointer_any ⟨vn, vb, vf⟩ _).mono ?_
  rintro e w3 ⟨rfl, g3⟩
  have HV3 := Lib.hid (HV1.out.grown g3)
  clear g3 x0 x1 x2 z0 z1 z2 hz HV1
  obtain ⟨x0, x1, x2, z0, z1, z2, hz⟩ := P2.r0 HV3.out
  obtain ⟨y0, y1, y2, f0, f1, f2⟩ := P2.r1 HV3.out
  rcases hp : ptrB ⟨vn, vb, vf⟩
  · go_wp2_with fail
    exact bodyPost_ret (v := .tuple #[.agg #[.int .i64 0, .int .i64 0, .int .i64 0], .int .i64 9]) (by simp [results, Try.results26, go_sem, y0, y1, y2]) rfl ⟨rfl, by have := HV3.out.gr; repeat (first | with_reducible exact grownBy_refl _ _ | with_reducible assumption | with_reducible refine World.grownBy.gr_drew ?_ | with_reducible refine World.grownBy.gr_set ?_ (by simp) _ | with_reducible refine gr_alloc ?_ _)⟩
  · have HF2 := Lib.hid (show findI rs.length vb = none from HF.out.elim (fun e => by rw [hp] at e; cases e) id)
    clear hp
    go_wp2_with fail
    refine (Is_any _ _ _ _ _).mono ?_
    rintro e w2 ⟨rfl, rfl⟩
    rw [HF2.out]
    go_wp2_with fail
    exact bodyPost_ret (v := .tuple #[.agg #[.int .i64 0, .int .i64 0, .int .i64 0], .int .i64 9]) (by simp [results, Try.results26, go_sem, y0, y1, y2]) rfl ⟨rfl, by have := HV3.out.gr; repeat (first | with_reducible exact grownBy_refl _ _ | with_reducible assumption | with_reducible refine World.grownBy.gr_drew ?_ | with_reducible refine World.grownBy.gr_set ?_ (by simp) _ | with_reducible refine gr_alloc ?_ _)⟩
/-- What the document asks of an addition within a block. -/
def addI (size : Nat) (q n : Int) : Bool := decide (0 ≤ q ∧ q ≤ size ∧ n ≤ size ∧ -(size : Int) ≤ n ∧ 0 ≤ q + n ∧ q + n ≤ size)
theorem addI_wit (size : Nat) (q n : Int) : addI size q n = witB size q n := by
  unfold addI witB
  exact decide_eq_decide.2 (by omega)
def addR (size : Nat) (v : Val) (n : Int) : Val × Int := if addI size v.n n = true then (⟨v.n + n, v.b, v.f⟩, 0) else (val0, 9)
set_option maxRecDepth 100000 in
set_option maxHeartbeats 4000000 in
theorem rAdd_some {S : Nat → Prop} {ad : Option Addr} {rs : List RB} (cap : Nat) (v : Val) (n : Int) (w : World) (h : RefAt S w ad rs) (hv : numB v = false) (hp : ptrB v = true) {k : Nat} (hf : findI rs.length v.b = some k) {x : RB} (hx : rs[k]? = some x) :
    Calls Try.prog 26 #[.slice ad rs.length cap, valV v, .int .i64 n] w fun e w' => e = .returned (.tuple #[valV (addR x.bytes.length v n).1, .int .i64 (addR x.bytes.length v n).2]) ∧ w.grownBy w' none := by
  have HW := Lib.hid hv
  have HF := Lib.hid hf
  have HP := Lib.hid hp
  obtain ⟨hb, hk⟩ := findI_some hf
  obtain ⟨_, hz⟩ := ptrB_zero hp
  obtain ⟨g, rfl, hgw, _⟩ := h.cells hx
  have hl := (h.each x (List.mem_of_getElem? hx)).2.2.1
  have HR := Lib.hid h
  have HX := Lib.hid hx
  have hsm := h.small
  obtain ⟨vn, vb, vf⟩ := v
  unfold valV valC
  dsimp only at *
  subst hb hz
  have HV0 := Lib.hid (P2.new w vn ((k : Int) + 1) 0 0 0 0)
  have HMT := Lib.hid (fun (h : 0 ≤ vn ∧ vn ≤ x.bytes.length ∧ n ≤ x.bytes.length ∧ -(x.bytes.length : Int) ≤ n ∧ 0 ≤ vn + n ∧ vn + n ≤ x.bytes.length) => (show addR x.bytes.length ⟨vn, (k : Int) + 1, 0⟩ n = (⟨vn + n, (k : Int) + 1, 0⟩, 0) from if_pos (decide_eq_true h)))
  have HMF := Lib.hid (fun (h : ¬ (0 ≤ vn ∧ vn ≤ x.bytes.length ∧ n ≤ x.bytes.length ∧ -(x.bytes.length : Int) ≤ n ∧ 0 ≤ vn + n ∧ vn + n ≤ x.bytes.length)) => (show addR x.bytes.length ⟨vn, (k : Int) + 1, 0⟩ n = (val0, 9) from if_neg (by rw [show addI x.bytes.length vn n = false from decide_eq_false h]; simp)))
  clear hv hp h hf hx
  go_enter Try.func26, Try.ntmps26
  go_wp2_with fail
  refine (show Calls Try.prog 45 #[.agg #[.int .i64 vn, .int .i64 ((k : Int) + 1), .int .i64 0]] _ _ from r10_Number_any ⟨vn, (k : Int) + 1, 0⟩ _).mono ?_
  rintro e w1 ⟨rfl, g1⟩
  have HV1 := Lib.hid (HV0.out.grown g1)
  clear g1
  obtain ⟨x0, x1, x2, z0, z1, z2, hz⟩ := P2.r0 HV1.out
  rw [HW.out]
  go_wp2_with fail
  refine (show Calls Try.prog 40 #[.agg #[.int .i64 vn, .int .i64 ((k : Int) + 1), .int .i64 0]] _ _ from r10_Pointer_any ⟨vn, (k : Int) + 1, 0⟩ _).mono ?_
  rintro e w3 ⟨rfl, g3⟩
  have HV3 := Lib.hid (HV1.out.grown g3)
  have HR3 := Lib.hid (HR.out.gr HV3.out.gr)
  clear g3 x0 x1 x2 z0 z1 z2 hz HV1
  obtain ⟨x0, x1, x2, z0, z1, z2, hz⟩ := P2.r0 HV3.out
  obtain ⟨y0, y1, y2, f0, f1, f2⟩ := P2.r1 HV3.out
  obtain ⟨g', e', hg', c0, c1, c2⟩ := HR3.out.cells HX.out
  obtain rfl : g = g' := by injection e' with e'; injection e'
  rw [HP.out]
  go_wp2_with fail
  refine (Is_any _ _ _ _ _).mono ?_
  rintro e w2 ⟨rfl, rfl⟩
  rw [HF.out]
  clear c0 c2
  generalize hsz : x.bytes.length = size at *
  by_cases a0 : 0 ≤ vn
  · by_cases a1 : vn ≤ size
    · by_cases a2 : n ≤ size
      · by_cases a3 : -(size : Int) ≤ n
        · by_cases a4 : 0 ≤ vn + n
          · by_cases a5 : vn + n ≤ size
            · have HD := Lib.hid (HMT.out ⟨a0, a1, a2, a3, a4, a5⟩)
              go_wp2_with fail
              exact bodyPost_ret (v := .tuple #[.agg #[.int .i64 (vn + n), .int .i64 ((k : Int) + 1), .int .i64 0], .int .i64 0]) (by simp [results, Try.results26, go_sem, y0, y1, y2]) rfl ⟨by rw [hsz, HD.out], by have := HV3.out.gr; repeat (first | with_reducible exact grownBy_refl _ _ | with_reducible assumption | with_reducible refine World.grownBy.gr_drew ?_ | with_reducible refine World.grownBy.gr_set ?_ (by simp) _ | with_reducible refine gr_alloc ?_ _)⟩
            · have HD := Lib.hid (HMF.out (fun h => a5 h.2.2.2.2.2))
              have e5 : decide (vn + n ≤ size) = false := decide_eq_false a5
              go_wp2_with fail
              exact bodyPost_ret (v := .tuple #[.agg #[.int .i64 0, .int .i64 0, .int .i64 0], .int .i64 9]) (by simp [results, Try.results26, go_sem, y0, y1, y2]) rfl ⟨by rw [hsz, HD.out]; rfl, by have := HV3.out.gr; repeat (first | with_reducible exact grownBy_refl _ _ | with_reducible assumption | with_reducible refine World.grownBy.gr_drew ?_ | with_reducible refine World.grownBy.gr_set ?_ (by simp) _ | with_reducible refine gr_alloc ?_ _)⟩
          · have HD := Lib.hid (HMF.out (fun h => a4 h.2.2.2.2.1))
            go_wp2_with fail
            exact bodyPost_ret (v := .tuple #[.agg #[.int .i64 0, .int .i64 0, .int .i64 0], .int .i64 9]) (by simp [results, Try.results26, go_sem, y0, y1, y2]) rfl ⟨by rw [hsz, HD.out]; rfl, by have := HV3.out.gr; repeat (first | with_reducible exact grownBy_refl _ _ | with_reducible assumption | with_reducible refine World.grownBy.gr_drew ?_ | with_reducible refine World.grownBy.gr_set ?_ (by simp) _ | with_reducible refine gr_alloc ?_ _)⟩
        · have HD := Lib.hid (HMF.out (fun h => a3 h.2.2.2.1))
          go_wp2_with fail
          exact bodyPost_ret (v := .tuple #[.agg #[.int .i64 0, .int .i64 0, .int .i64 0], .int .i64 9]) (by simp [results, Try.results26, go_sem, y0, y1, y2]) rfl ⟨by rw [hsz, HD.out]; rfl, by have := HV3.out.gr; repeat (first | with_reducible exact grownBy_refl _ _ | with_reducible assumption | with_reducible refine World.grownBy.gr_drew ?_ | with_reducible refine World.grownBy.gr_set ?_ (by simp) _ | with_reducible refine gr_alloc ?_ _)⟩
      · have HD := Lib.hid (HMF.out (fun h => a2 h.2.2.1))
        go_wp2_with fail
        exact bodyPost_ret (v := .tuple #[.agg #[.int .i64 0, .int .i64 0, .int .i64 0], .int .i64 9]) (by simp [results, Try.results26, go_sem, y0, y1, y2]) rfl ⟨by rw [hsz, HD.out]; rfl, by have := HV3.out.gr; repeat (first | with_reducible exact grownBy_refl _ _ | with_reducible assumption | with_reducible refine World.grownBy.gr_drew ?_ | with_reducible refine World.grownBy.gr_set ?_ (by simp) _ | with_reducible refine gr_alloc ?_ _)⟩
    · have HD := Lib.hid (HMF.out (fun h => a1 h.2.1))
      go_wp2_with fail
      exact bodyPost_ret (v := .tuple #[.agg #[.int .i64 0, .int .i64 0, .int .i64 0], .int .i64 9]) (by simp [results, Try.results26, go_sem, y0, y1, y2]) rfl ⟨by rw [hsz, HD.out]; rfl, by have := HV3.out.gr; repeat (first | with_reducible exact grownBy_refl _ _ | with_reducible assumption | with_reducible refine World.grownBy.gr_drew ?_ | with_reducible refine World.grownBy.gr_set ?_ (by simp) _ | with_reducible refine gr_alloc ?_ _)⟩
  · have HD := Lib.hid (HMF.out (fun h => a0 h.1))
    go_wp2_with fail
    exact bodyPost_ret (v := .tuple #[.agg #[.int .i64 0, .int .i64 0, .int .i64 0], .int .i64 9]) (by simp [results, Try.results26, go_sem, y0, y1, y2]) rfl ⟨by rw [hsz, HD.out]; rfl, by have := HV3.out.gr; repeat (first | with_reducible exact grownBy_refl _ _ | with_reducible assumption | with_reducible refine World.grownBy.gr_drew ?_ | with_reducible refine World.grownBy.gr_set ?_ (by simp) _ | with_reducible refine gr_alloc ?_ _)⟩
theorem rAdd_any {S : Nat → Prop} {ad : Option Addr} {rs : List RB} (cap : Nat) (v : Val) (n : Int) (w : World) (h : RefAt S w ad rs) :
    Calls Try.prog 26 #[.slice ad rs.length cap, valV v, .int .i64 n] w fun e w' => e = .returned (.tuple #[valV (addBs (rsB rs) v n).1, .int .i64 (addBs (rsB rs) v n).2]) ∧ w.grownBy w' none := by
  unfold addBs
  rw [rsB_len]
  by_cases hv : numB v = true
  · rw [if_pos hv]
    exact rAdd_num _ v n w hv
  · rw [if_neg hv]
    have hv : numB v = false := by simpa using hv
    rcases hf : findI rs.length v.b with _ | k
    · exact rAdd_none cap v n w h hv (.inr hf)
    · obtain ⟨x, hx⟩ : ∃ x, rs[k]? = some x := ⟨_, List.getElem?_eq_getElem (findI_some hf).2⟩
      simp only [rsB_at, hx, Option.map_some, rbB]
      rcases hp : ptrB v
      · rw [if_neg (fun h => by cases h.1)]
        exact rAdd_none cap v n w h hv (.inl hp)
      · have := rAdd_some cap v n w h hv hp hf hx
        unfold addR at this
        rw [addI_wit] at this
        simpa using this

end Go.Proofs.Ytblhnjoophhliaa
