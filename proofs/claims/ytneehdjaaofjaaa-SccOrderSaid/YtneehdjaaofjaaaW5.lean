/- scc: the document's example in plain words; shown, few. -/
import Derived.Test.YtneehdjaaofjaaaWS
import Derived.Test.YtneehdjaaofjaaaZi
namespace Go.Proofs.Ytneehdjaaofjaaa
open Go.RowKit
def exE : List Edg := [⟨0, 0, 1⟩, ⟨1, 0, 2⟩, ⟨2, 0, 1⟩, ⟨3, 0, 0⟩]
theorem exP : prs 4 exE = [(0, 1), (1, 2), (2, 1), (3, 0)] := by decide +kernel
theorem exM {a b : Nat} : (a, b) ∈ prs 4 exE ↔ (a = 0 ∧ b = 1) ∨ (a = 1 ∧ b = 2) ∨ (a = 2 ∧ b = 1) ∨ (a = 3 ∧ b = 0) := by
  rw [exP]
  simp
theorem ex12 {a b : Nat} (h : Lds (prs 4 exE) a b) (ha : a = 1 ∨ a = 2) : b = 1 ∨ b = 2 := h.shut (S := fun x => x = 1 ∨ x = 2) (fun x y hxy _ => by rw [exM] at hxy; omega) ha
theorem ex3 {a b : Nat} (h : Lds (prs 4 exE) a b) (ha : a ≠ 3) : b ≠ 3 := h.shut (S := fun x => x ≠ 3) (fun x y hxy _ => by rw [exM] at hxy; omega) ha
theorem exG : IsGr 4 (prs 4 exE) [0, 1, 1, 3] := by
  refine ⟨rfl, fun v hv => ?_⟩
  have l12 : Lds (prs 4 exE) 1 2 := .one (exM.2 (by omega))
  have l21 : Lds (prs 4 exE) 2 1 := .one (exM.2 (by omega))
  rcases (show v = 0 ∨ v = 1 ∨ v = 2 ∨ v = 3 by omega) with rfl | rfl | rfl | rfl
  · exact ⟨0, rfl, Mut.refl _ _, fun u _ => Nat.zero_le _⟩
  · exact ⟨1, rfl, Mut.refl _ _, fun u hu => by have := ex12 hu.1 (.inl rfl); omega⟩
  · exact ⟨1, rfl, ⟨l21, l12⟩, fun u hu => by have := ex12 hu.1 (.inr rfl); omega⟩
  · refine ⟨3, rfl, Mut.refl _ _, fun u hu => ?_⟩
    by_cases h : u = 3
    · omega
    · exact absurd rfl (ex3 hu.2 h)
theorem exFree {d : List Int} {v : Nat} : FreeO (prs 4 exE) [0, 1, 1, 3] d v ↔ (v = 1 → (0 : Int) ∈ d) ∧ (v = 0 → (3 : Int) ∈ d) := by
  constructor
  · intro h
    constructor
    · rintro rfl
      exact h 0 1 (exM.2 (by omega)) rfl (by simp) 0 rfl
    · rintro rfl
      exact h 3 0 (exM.2 (by omega)) rfl (by simp) 3 rfl
  · rintro ⟨h1, h2⟩ a b hab hb ha x hx
    rw [exM] at hab
    rcases hab with ⟨rfl, rfl⟩ | ⟨rfl, rfl⟩ | ⟨rfl, rfl⟩ | ⟨rfl, rfl⟩
    · simp at hb hx
      subst hx
      exact h1 (by omega)
    · simp at hb ha
      omega
    · simp at hb ha
      omega
    · simp at hb hx
      subst hx
      exact h2 (by omega)
theorem exMay {d : List Int} {v : Nat} : MayO (prs 4 exE) [0, 1, 1, 3] d v ↔ (v = 0 ∧ (0 : Int) ∉ d ∧ (3 : Int) ∈ d) ∨ (v = 1 ∧ (1 : Int) ∉ d ∧ (0 : Int) ∈ d) ∨ (v = 3 ∧ (3 : Int) ∉ d) := by
  unfold MayO
  rw [exFree]
  rcases (show v = 0 ∨ v = 1 ∨ v = 2 ∨ v = 3 ∨ 4 ≤ v by omega) with rfl | rfl | rfl | rfl | h
  · simp
  · simp
  · simp
  · simp
  · rw [List.getElem?_eq_none (by simpa using h)]
    simp
    omega
theorem exO : IsOr (prs 4 exE) [0, 1, 1, 3] [3, 0, 1] := by
  refine ⟨fun k x hx => ?_, fun v hv => ?_⟩
  · have hk := (List.getElem?_eq_some_iff.1 hx).1
    simp at hk
    rcases (show k = 0 ∨ k = 1 ∨ k = 2 by omega) with rfl | rfl | rfl
    · simp at hx
      subst hx
      exact ⟨3, rfl, exMay.2 (.inr (.inr ⟨rfl, by simp⟩)), fun u hu h => by rw [exMay] at h; simp at h; omega⟩
    · simp at hx
      subst hx
      exact ⟨0, rfl, exMay.2 (.inl ⟨rfl, by simp, by simp⟩), fun u hu => absurd hu (Nat.not_lt_zero _)⟩
    · simp at hx
      subst hx
      exact ⟨1, rfl, exMay.2 (.inr (.inl ⟨rfl, by simp, by simp⟩)), fun u hu h => by rw [exMay] at h; simp at h; omega⟩
  · rw [exMay] at hv
    simp at hv
theorem exR : IsRe 4 (prs 4 exE) [1] [1, 2] := by
  refine ⟨by simp [RiseI], fun x => ?_⟩
  constructor
  · intro h
    rcases List.mem_cons.1 h with rfl | h
    · exact ⟨1, 1, by simp, by omega, .refl, rfl⟩
    · obtain rfl := List.mem_singleton.1 h
      exact ⟨1, 2, by simp, by omega, .one (exM.2 (by omega)), rfl⟩
  · rintro ⟨a, b, ha, _, hl, rfl⟩
    have ha0 : (a : Int) = 1 := by simpa using ha
    have ha1 : a = 1 := by omega
    have := ex12 hl (.inl ha1)
    rcases this with rfl | rfl <;> simp
def exC : Array Value := #[.int .i64 0, .int .i64 0, .int .i64 1, .int .i64 1, .int .i64 0, .int .i64 2, .int .i64 2, .int .i64 0, .int .i64 1, .int .i64 3, .int .i64 0, .int .i64 0]
theorem ex_eds {W : World} {b : Nat} {t : TypeId} {fz : Nat × Nat} (h : W.heap[b]? = some (.cells exC t fz)) : EdsAt W (some ⟨b, 0, none⟩) exE := by
  refine .inr ⟨_, rfl, fun j x hx k u hu => ?_⟩
  rw [add_none, Nat.zero_add, cell_of_row _ _ _ _ _ _ h]
  have hj : j < 4 := (List.getElem?_eq_some_iff.1 hx).1
  have hk : k < 3 := (Array.getElem?_eq_some_iff.1 hu).1
  rcases (show j = 0 ∨ j = 1 ∨ j = 2 ∨ j = 3 by omega) with rfl | rfl | rfl | rfl
  all_goals
    simp only [exE, List.getElem?_cons_zero, List.getElem?_cons_succ, Option.some.injEq] at hx
    subst hx
    rcases (show k = 0 ∨ k = 1 ∨ k = 2 by omega) with rfl | rfl | rfl
    all_goals exact hu
set_option maxRecDepth 100000 in
set_option maxHeartbeats 4000000 in
theorem sh15_any (w : World) :
    Calls Try.prog 9 #[] w fun e w' => e = .returned (.bool true) ∧ w.grownBy w' none := by
  go_enter Try.func9, Try.ntmps9
  go_wp2_with fail
  have HE0 := Lib.hid (show (w.alloc (.cells exC 33)).heap[w.heap.size]? = some (.cells exC 33 (0, 0)) from heap_alloc_new w _)
  have HG0 := Lib.hid (show w.grownBy (w.alloc (.cells exC 33)) none from gr_alloc (grownBy_refl w none) _)
  refine (show Calls Try.prog 12 #[.int .i64 4, .slice (some ⟨w.heap.size, 0, none⟩) 4 4] (w.alloc (.cells exC 33)) _ from Groups15 4 _ 4 exE _ (ex_eds HE0.out) (by decide)).mono ?_
  rintro e w1 ⟨G, hG, A, n, c, rfl, hI, hg, _⟩
  obtain rfl : G = [0, 1, 1, 3] := hG.same (show IsGr (szE 4) (prs (szE 4) exE) [0, 1, 1, 3] from exG)
  have HI := Lib.hid hI
  have HE1 := Lib.hid ((hg.block _ (lt_of_heap HE0.out) (by simp)).trans HE0.out)
  have HG1 := Lib.hid (grownBy_trans HG0.out hg)
  clear hI hg hG HE0 HG0
  go_wp2_with fail
  refine (Ints_any _ _ _ _ _ _ [0, 1, 1, 3] [0, 1, 1, 3] _ (HI.out.keep (gr_alloc (grownBy_refl _ _) _)) (IntsAt.new w1 [0, 1, 1, 3] 3 _ 4 _ rfl rfl) (by simp)).mono ?_
  rintro e w2 ⟨rfl, hg⟩
  rw [decide_eq_true rfl]
  have hg2 := grownBy_trans (gr_alloc (grownBy_refl w1 none) _) hg
  have HE2 := Lib.hid ((hg2.block _ (lt_of_heap HE1.out) (by simp)).trans HE1.out)
  have HG2 := Lib.hid (grownBy_trans HG1.out hg2)
  clear hg hg2 HI HE1 HG1
  go_wp2_with fail
  refine (show Calls Try.prog 14 #[.int .i64 4, .slice (some ⟨w.heap.size, 0, none⟩) 4 4] w2 _ from Order15 4 _ 4 exE _ (ex_eds HE2.out) (by decide)).mono ?_
  rintro e w3 ⟨G, O, hG, hO, A', n', c', rfl, hI, hg, _⟩
  obtain rfl : G = [0, 1, 1, 3] := hG.same (show IsGr (szE 4) (prs (szE 4) exE) [0, 1, 1, 3] from exG)
  obtain rfl : O = [3, 0, 1] := hO.same (show IsOr (prs (szE 4) exE) [0, 1, 1, 3] [3, 0, 1] from exO)
  have HI := Lib.hid hI
  have HE3 := Lib.hid ((hg.block _ (lt_of_heap HE2.out) (by simp)).trans HE2.out)
  have HG3 := Lib.hid (grownBy_trans HG2.out hg)
  clear hI hg hG hO HE2 HG2
  go_wp2_with fail
  refine (Ints_any _ _ _ _ _ _ [3, 0, 1] [3, 0, 1] _ (HI.out.keep (gr_alloc (grownBy_refl _ _) _)) (IntsAt.new w3 [3, 0, 1] 3 _ 3 _ rfl rfl) (by simp)).mono ?_
  rintro e w4 ⟨rfl, hg⟩
  rw [decide_eq_true rfl]
  have hg2 := grownBy_trans (gr_alloc (grownBy_refl w3 none) _) hg
  have HE4 := Lib.hid ((hg2.block _ (lt_of_heap HE3.out) (by simp)).trans HE3.out)
  have HG4 := Lib.hid (grownBy_trans HG3.out hg2)
  clear hg hg2 HI HE3 HG3
  go_wp2_with fail
  have hga := gr_alloc (grownBy_refl w4 none) (.cells #[.int .i64 1] 3)
  refine (show Calls Try.prog 16 #[.int .i64 4, .slice (some ⟨w.heap.size, 0, none⟩) 4 4, .slice (some ⟨w4.heap.size, 0, none⟩) 1 1] (w4.alloc (.cells #[.int .i64 1] 3)) _ from Reach15 4 _ _ 4 1 1 exE [1] _ (ex_eds ((hga.block _ (lt_of_heap HE4.out) (by simp)).trans HE4.out)) (IntsAt.new w4 [1] 3 _ 1 _ rfl rfl) (by decide) (by simp)).mono ?_
  rintro e w5 ⟨R, hR, A'', n'', c'', rfl, hI, hg, _⟩
  obtain rfl : R = [1, 2] := hR.same (show IsRe (szE 4) (prs (szE 4) exE) [1] [1, 2] from exR)
  have HI := Lib.hid hI
  have HG5 := Lib.hid (grownBy_trans (grownBy_trans HG4.out hga) hg)
  clear hI hg hga hR HE4 HG4
  go_wp2_with fail
  refine (Ints_any _ _ _ _ _ _ [1, 2] [1, 2] _ (HI.out.keep (gr_alloc (grownBy_refl _ _) _)) (IntsAt.new w5 [1, 2] 3 _ 2 _ rfl rfl) (by simp)).mono ?_
  rintro e w6 ⟨rfl, hg⟩
  rw [decide_eq_true rfl]
  have HG6 := Lib.hid (grownBy_trans (gr_alloc HG5.out _) hg)
  clear hg HI HG5
  go_wp2_with fail
  go_ret
  exact ⟨rfl, HG6.out⟩
set_option maxRecDepth 100000 in
set_option maxHeartbeats 4000000 in
theorem few15c_any (n : Int) (A : Option Addr) (c0 : Nat) (E : List Edg) (w : World) (hE : EdsAt w A E) (hc : E.length ≤ c0) :
    Calls Try.prog 10 #[.int .i64 n, .slice A E.length c0] w fun e w' => ∃ d, d = c0 ∧ e = .returned (.tuple #[.int .i64 (if 60 < n then 60 else n), .slice A (E.take 200).length d]) ∧ w = w' := by
  have HE := Lib.hid hE
  clear hE
  obtain ⟨m, hm⟩ : ∃ m, m = if 60 < n then 60 else n := ⟨_, rfl⟩
  rw [← hm]
  have hlen : (E.take 200).length = min 200 E.length := List.length_take
  by_cases h2 : 200 < E.length
  · have HL := Lib.hid (show (E.take 200).length = 200 by omega)
    obtain ⟨ad, rfl⟩ := HE.out.some_ (show 0 < E.length by omega)
    rw [HL.out]
    clear hlen
    by_cases h1 : 60 < n
    · rw [if_pos h1] at hm
      subst hm
      go_enter Try.func10, Try.ntmps10
      go_wp2_with fail
      go_ret2
      first | exact ⟨c0, rfl, rfl, rfl⟩ | exact ⟨rfl, rfl⟩ | exact ⟨⟨c0, rfl, rfl⟩, rfl⟩ | exact ⟨⟨c0, rfl, rfl⟩, trivial⟩ | exact ⟨rfl, trivial⟩ | rfl | trivial
    · rw [if_neg h1] at hm
      subst hm
      go_enter Try.func10, Try.ntmps10
      go_wp2_with fail
      go_ret2
      first | exact ⟨c0, rfl, rfl, rfl⟩ | exact ⟨rfl, rfl⟩ | exact ⟨⟨c0, rfl, rfl⟩, rfl⟩ | exact ⟨⟨c0, rfl, rfl⟩, trivial⟩ | exact ⟨rfl, trivial⟩ | rfl | trivial
  · have HL := Lib.hid (show (E.take 200).length = E.length by omega)
    rw [HL.out]
    clear hlen
    by_cases h1 : 60 < n
    · rw [if_pos h1] at hm
      subst hm
      go_enter Try.func10, Try.ntmps10
      go_wp2_with fail
      go_ret2
      first | exact ⟨c0, rfl, rfl, rfl⟩ | exact ⟨rfl, rfl⟩ | exact ⟨⟨c0, rfl, rfl⟩, rfl⟩ | exact ⟨⟨c0, rfl, rfl⟩, trivial⟩ | exact ⟨rfl, trivial⟩ | rfl | trivial
    · rw [if_neg h1] at hm
      subst hm
      go_enter Try.func10, Try.ntmps10
      go_wp2_with fail
      go_ret2
      first | exact ⟨c0, rfl, rfl, rfl⟩ | exact ⟨rfl, rfl⟩ | exact ⟨⟨c0, rfl, rfl⟩, rfl⟩ | exact ⟨⟨c0, rfl, rfl⟩, trivial⟩ | exact ⟨rfl, trivial⟩ | rfl | trivial
theorem few15_any (n : Int) (A : Option Addr) (c0 : Nat) (E : List Edg) (w : World) (hE : EdsAt w A E) (hc : E.length ≤ c0) :
    Calls Try.prog 10 #[.int .i64 n, .slice A E.length c0] w fun e w' => ∃ d, e = .returned (.tuple #[.int .i64 (if 60 < n then 60 else n), .slice A (E.take 200).length d]) ∧ w = w' := (few15c_any n A c0 E w hE hc).mono fun _ _ ⟨d, _, h1, h2⟩ => ⟨d, h1, h2⟩

end Go.Proofs.Ytneehdjaaofjaaa
