/- mem: cut. -/
import Derived.Test.YtblhnjoophhliaaM6
namespace Go.Proofs.Ytblhnjoophhliaa
open Go.RowKit
/-- The block whose n bytes at p may be read and written. -/
def cutI (L : List (Nat × Blk)) (p : Val) (n : Int) : Option Nat :=
  match findI L.length p.b with
  | none => none
  | some k => match L[k]? with
    | none => none
    | some x => if ptrB p = true ∧ x.2.live = true ∧ witB x.2.bytes.length p.n n = true then some k else none
theorem cutI_some {L : List (Nat × Blk)} {p : Val} {n : Int} {k : Nat} (h : cutI L p n = some k) : findI L.length p.b = some k ∧ ptrB p = true ∧ ∃ x, L[k]? = some x ∧ x.2.live = true ∧ witB x.2.bytes.length p.n n = true := by
  unfold cutI at h
  split at h
  · cases h
  · rename_i k' hk'
    split at h
    · cases h
    · rename_i x hx
      split at h
      · rename_i hc
        injection h with h; subst h
        exact ⟨hk', hc.1, x, hx, hc.2⟩
      · cases h
theorem cutI_none {L : List (Nat × Blk)} {p : Val} {n : Int} {k : Nat} {x : Nat × Blk} (h : cutI L p n = none) (hk : findI L.length p.b = some k) (hx : L[k]? = some x) : ptrB p = false ∨ x.2.live = false ∨ witB x.2.bytes.length p.n n = false := by
  unfold cutI at h
  rw [hk] at h
  simp only [hx] at h
  by_cases a : ptrB p = true
  · by_cases b : x.2.live = true
    · by_cases c : witB x.2.bytes.length p.n n = true
      · rw [if_pos ⟨a, b, c⟩] at h; cases h
      · exact .inr (.inr (by simpa using c))
    · exact .inr (.inl (by simpa using b))
  · exact .inl (by simpa using a)
theorem gr_drewN {a b : World} {r : Option Nat} (h : a.grownBy b r) (n : Nat) : a.grownBy (b.drewN n) r := ⟨h.os, h.tape, h.output, h.size, h.block⟩
/-- The box of the argument. -/
structure VB (w W : World) (p : Val) : Prop where
  box : VBox W w.heap.size p
  gr : w.grownBy W none
theorem VB.new (w : World) (p : Val) : VB w (w.alloc (.cells (valC p) 29)) p := ⟨VBox.new w p, gr_alloc (grownBy_refl _ _) _⟩
theorem VB.new3 (w : World) (n b f : Int) : VB w (w.alloc (.cells #[.int .i64 n, .int .i64 b, .int .i64 f] 29)) ⟨n, b, f⟩ := VB.new w ⟨n, b, f⟩
theorem VB.grown {w a b : World} {p : Val} (h : VB w a p) (g : a.grownBy b none) : VB w b p := ⟨h.box.gr g (by simp), grownBy_trans h.gr g⟩
theorem VB.drew {w a : World} {p : Val} (h : VB w a p) : VB w a.drew p := ⟨h.box, h.gr.gr_drew⟩
theorem VB.reads {w W : World} {n b f : Int} (h : VB w W ⟨n, b, f⟩) : W.cell? ⟨w.heap.size, 0, none⟩ = some (.int .i64 n) ∧ W.cell? ⟨w.heap.size, 1, none⟩ = some (.int .i64 b) ∧ W.cell? ⟨w.heap.size, 2, none⟩ = some (.int .i64 f) ∧ w.heap.size < W.heap.size :=
  ⟨h.box.cells.1, h.box.cells.2.1, h.box.cells.2.2, lt_of_heap h.box⟩
set_option maxRecDepth 100000 in
set_option maxHeartbeats 4000000 in
theorem cut_nil (p : Val) (n : Int) (w : World) :
    Calls Try.prog 36 #[.pointer none, valV p, .int .i64 n] w fun e w' => e = .returned (.tuple #[.slice none 0 0, .bool false]) ∧ w.grownBy w' none := by
  obtain ⟨pn, pb, pf⟩ := p
  unfold valV valC
  dsimp only
  have HV0 := Lib.hid (VB.new3 w pn pb pf)
  go_enter Try.func36, Try.ntmps36
  go_wp2_with fail
  refine (find_nil _ _).mono ?_
  rintro e w0 ⟨rfl, rfl⟩
  go_wp2_with fail
  refine (show Calls Try.prog 46 #[.agg #[.int .i64 pn, .int .i64 pb, .int .i64 pf]] _ _ from isPointer_any ⟨pn, pb, pf⟩ _).mono ?_
  rintro e w1 ⟨rfl, g1⟩
  have HV1 := Lib.hid (HV0.out.grown g1)
  clear g1
  rcases ptrB ⟨pn, pb, pf⟩
  all_goals
    go_wp2_with fail
    go_ret2
    exact ⟨rfl, HV1.out.gr⟩
set_option maxRecDepth 100000 in
set_option maxHeartbeats 4000000 in
theorem cut_no {B a : Nat} {row : Value} {L : List (Nat × Blk)} (p : Val) (n : Nat) (w : World) (h : MemAt w B a row L) (hc : cutI L p n = none) :
    Calls Try.prog 36 #[.pointer (some ⟨a, 0, none⟩), valV p, .int .i64 n] w fun e w' => e = .returned (.tuple #[.slice none 0 0, .bool false]) ∧ w.grownBy w' none := by
  obtain ⟨pn, pb, pf⟩ := p
  unfold valV valC
  dsimp only
  have HV0 := Lib.hid (VB.new3 w pn pb pf)
  have HM := Lib.hid (h.gr HV0.out.gr)
  rcases hf : findI L.length pb with _ | k
  · have HF := Lib.hid (fun W (hW : MemAt W B a row L) => find_no pb W hW hf)
    clear h hc hf
    go_enter Try.func36, Try.ntmps36
    go_wp2_with fail
    refine (HF.out _ HM.out).mono ?_
    rintro e w0 ⟨rfl, rfl⟩
    go_wp2_with fail
    refine (show Calls Try.prog 46 #[.agg #[.int .i64 pn, .int .i64 pb, .int .i64 pf]] _ _ from isPointer_any ⟨pn, pb, pf⟩ _).mono ?_
    rintro e w1 ⟨rfl, g1⟩
    have HV1 := Lib.hid (HV0.out.grown g1)
    clear g1
    rcases ptrB ⟨pn, pb, pf⟩
    all_goals
      go_wp2_with fail
      go_ret2
      exact ⟨rfl, HV1.out.gr⟩
  · have hkl := (findI_some hf).2
    obtain ⟨r, c, rfl, hbr, hrw⟩ := h.row_some (by omega)
    obtain ⟨x, hx⟩ : ∃ x, L[k]? = some x := ⟨_, List.getElem?_eq_getElem hkl⟩
    have HCN := Lib.hid (cutI_none hc hf hx)
    have HF := Lib.hid (fun W (hW : MemAt W B a (.slice (some ⟨r, 0, none⟩) L.length c) L) => find_yes pb k W hW hf)
    have HX := Lib.hid hx
    have hl := (h.bytes x (List.mem_of_getElem? hx)).2.2.1
    clear h hc hf hx
    go_enter Try.func36, Try.ntmps36
    go_wp2_with fail
    refine (HF.out _ HM.out).mono ?_
    rintro e w0 ⟨rfl, rfl⟩
    go_wp2_with fail
    refine (show Calls Try.prog 46 #[.agg #[.int .i64 pn, .int .i64 pb, .int .i64 pf]] _ _ from isPointer_any ⟨pn, pb, pf⟩ _).mono ?_
    rintro e w1 ⟨rfl, g1⟩
    have HV1 := Lib.hid (HV0.out.grown g1)
    have HM1 := Lib.hid (HM.out.gr g1)
    clear g1
    obtain ⟨x0, x1, x2, hz⟩ := VB.reads HV1.out
    obtain ⟨c0, c1, c2, z0, z1, z2⟩ := HM1.out.cells HX.out
    by_cases hp : ptrB ⟨pn, pb, pf⟩ = true
    · rw [hp]
      by_cases hv : x.2.live = true
      · rw [hv] at c1
        have hw : witB x.2.bytes.length pn n = false := (HCN.out.resolve_left (by rw [hp]; simp)).resolve_left (by rw [hv]; simp)
        have HWI := Lib.hid hw
        clear hp hv hw z0 z1 z2
        go_wp2_with fail
        refine (within_any _ _ _ c2 hl).mono ?_
        rintro e w2 ⟨rfl, rfl⟩
        rw [HWI.out]
        go_wp2_with fail
        go_ret2
        exact ⟨rfl, HV1.out.gr⟩
      · have hv : x.2.live = false := by simpa using hv
        rw [hv] at c1
        clear hp hv z0 z1 z2
        go_wp2_with fail
        go_ret2
        exact ⟨rfl, HV1.out.gr⟩
    · have hp : ptrB ⟨pn, pb, pf⟩ = false := by simpa using hp
      rw [hp]
      clear hp z0 z1 z2
      go_wp2_with fail
      go_ret2
      exact ⟨rfl, HV1.out.gr⟩
theorem witB_nat {len : Nat} {q : Int} {n : Nat} (h : witB len q n = true) : ∃ i : Nat, q = i ∧ i + n ≤ len := by
  unfold witB at h
  have h := of_decide_eq_true h
  exact ⟨q.toNat, by omega, by omega⟩
set_option maxRecDepth 100000 in
set_option maxHeartbeats 4000000 in
theorem cut_yes {B a : Nat} {row : Value} {L : List (Nat × Blk)} (p : Val) (n k : Nat) (w : World) (h : MemAt w B a row L) (hc : cutI L p n = some k) (hn : n ≤ 4096) {x : Nat × Blk} (hx : L[k]? = some x) :
    Calls Try.prog 36 #[.pointer (some ⟨a, 0, none⟩), valV p, .int .i64 n] w fun e w' => ∃ o : Nat, e = .returned (.tuple #[.slice (some ⟨x.1, o * 5, none⟩) n n, .bool true]) ∧ o + n ≤ x.2.bytes.length ∧ (0 < n → p.n = o) ∧ w.grownBy w' none := by
  obtain ⟨hf, hp, x', hx', hv, hw⟩ := cutI_some hc
  obtain rfl : x = x' := Option.some.inj (hx.symm.trans hx')
  obtain ⟨pn, pb, pf⟩ := p
  unfold valV valC
  dsimp only at hf hw ⊢
  obtain ⟨o, rfl, ho⟩ := witB_nat hw
  have HV0 := Lib.hid (VB.new3 w o pb pf)
  have HM := Lib.hid (h.gr HV0.out.gr)
  have hkl := (findI_some hf).2
  obtain ⟨r, c, rfl, hbr, hrw⟩ := h.row_some (by omega)
  have HF := Lib.hid (fun W (hW : MemAt W B a (.slice (some ⟨r, 0, none⟩) L.length c) L) => find_yes pb k W hW hf)
  have HX := Lib.hid hx
  have hl := (h.bytes x (List.mem_of_getElem? hx)).2.2.1
  have HP := Lib.hid hp
  have HVV := Lib.hid hv
  have HWI := Lib.hid hw
  clear h hc hf hx hx' hp hv hw
  go_enter Try.func36, Try.ntmps36
  go_wp2_with fail
  refine (HF.out _ HM.out).mono ?_
  rintro e w0 ⟨rfl, rfl⟩
  go_wp2_with fail
  refine (show Calls Try.prog 46 #[.agg #[.int .i64 o, .int .i64 pb, .int .i64 pf]] _ _ from isPointer_any ⟨o, pb, pf⟩ _).mono ?_
  rintro e w1 ⟨rfl, g1⟩
  have HV1 := Lib.hid (HV0.out.grown g1)
  have HM1 := Lib.hid (HM.out.gr g1)
  clear g1
  obtain ⟨x0, x1, x2, hz⟩ := VB.reads HV1.out
  obtain ⟨c0, c1, c2, z0, z1, z2⟩ := HM1.out.cells HX.out
  rw [HP.out]
  rw [HVV.out] at c1
  clear z0 z1 z2
  go_wp2_with fail
  refine (within_any _ _ _ c2 hl).mono ?_
  rintro e w2 ⟨rfl, rfl⟩
  rw [HWI.out]
  go_wp2_with fail
  have hsum : IntKind.i64.wrap ((o : Int) + n) = (o : Int) + n := IntWalk.i64_in _ (by omega)
  go_quiet (fail)
  clear hsum
  by_cases hn0 : n = 0
  · subst hn0
    go_wp2_with fail
    go_ret2
    exact ⟨0, rfl, by omega, fun h => by omega, gr_drewN HV1.out.gr nq⟩
  · have h0 : 0 < n := by omega
    clear hn0
    go_wp2_with fail
    go_ret2
    exact ⟨o, (show Ending.returned (.tuple #[.slice (some ⟨x.1, o * 5, none⟩) (o + n - o) (o + n - o), .bool true]) = _ by rw [Nat.add_sub_cancel_left]), ho, fun _ => rfl, gr_drewN HV1.out.gr nq⟩

end Go.Proofs.Ytblhnjoophhliaa
