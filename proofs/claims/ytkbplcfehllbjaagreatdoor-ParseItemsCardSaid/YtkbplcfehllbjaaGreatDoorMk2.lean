/- Merged: Q6, Q7, Q8, Q9. -/
import Derived.Test.YtkbplcfehllbjaaGreatDoorMk1
import Derived.Deep.RegionHeld3
import Derived.Deep.DrawnRows
import Derived.Deep.LoopGhost
import Derived.Deep.AppendLies
/- baseType. -/
namespace Go.Proofs.YtkbplcfehllbjaaGreatDoor
open Go.RowKit
attribute [local go_sem ↓] Go.wp_at_zero Go.wp_at_succ
theorem undrew {a b : World} {r : Option Nat} (h : a.drew.grownBy b r) : a.grownBy b r := ⟨h.os, h.tape, h.output, h.size, h.block⟩
/-- What the type's look-up reads. -/
theorem typ_reads {C : Ctx} {w : World} {i d : Nat} (h : Pr C w i d) {s : List UInt8} {v : Value} (hv : typesV ⟨s.toArray⟩ = v) :
    w.cell? ⟨C.bp, 3, none⟩ = some (.map (some C.bm)) ∧ (Instr.lookup 68 (.map (some C.bm)) (.string ⟨s.toArray⟩) true).run Tryz.prog w = .ok v w ∧ Pr C w i d := by
  obtain ⟨o, ho, hl⟩ := h.map
  exact ⟨(cells4_of w C.bp _ _ _ _ _ h.blk).2.2.2.1, by rw [← hv]; exact hl w _ ho, h⟩
theorem typ_reads2 {C : Ctx} {w w' : World} {i d : Nat} (h : Pr C w i d) (g : w.grownBy w' none) {s : List UInt8} {v : Value} (hv : typesV ⟨s.toArray⟩ = v) :
    w'.cell? ⟨C.bp, 3, none⟩ = some (.map (some C.bm)) ∧ (Instr.lookup 68 (.map (some C.bm)) (.string ⟨s.toArray⟩) true).run Tryz.prog w' = .ok v w' ∧ Pr C w' i d := typ_reads (h.grown g) hv
def tyVal (t : Ty) (w0 w' : World) (v : Value) : Prop := ∃ ofv, v = tyV t ofv ∧ RepOf w' (fun g => w0.heap.size ≤ g) ofv t.of
set_option maxRecDepth 100000 in
set_option maxHeartbeats 2000000 in
theorem base_no (C : Ctx) (w : World) (i d : Nat) (h : Pr C w i d) (hn : typeKind (hdT (C.toks.drop i)).text = none) :
    Calls Tryz.prog 51 #[C.p] w (Out C w d (failP (C.toks.drop i) 2 : PR Ty) fun t => tyVal t w) := by
  have HP := Lib.hid h.at
  have hta := hd_at _ _ h.lt
  have hpos : (failP (C.toks.drop i) 2 : PR Ty) = .err (hdT (C.toks.drop i)).pos 2 := rfl
  rw [hpos]
  have HF := Lib.hid (fun w' (h' : Pr C w' i d) => fail_any 2 C w' i d h')
  generalize hdT (C.toks.drop i) = t at *
  have HA := Lib.hid hta
  have HV : Hid (typesV ⟨t.text.toArray⟩ = .tuple #[.int .i64 0, .bool false]) := by show _ = _; simp [typesV, hn]
  have hp : C.p = .pointer (some ⟨C.bp, 0, none⟩) := rfl
  have hf := field2
  clear h hta hpos hn
  go_enter Tryz.func51, Tryz.ntmps51
  go_wp2_with fail
  have HPa := HP.out.alloc (.cells #[.int .i64 0, .int .i64 0, .string ⟨#[]⟩, .slice none 0 0] 25)
  have HP1 := HPa.drew.pr
  go_region_held3 (fun w' => w'.cell? ⟨C.bp, 3, none⟩ = some (.map (some C.bm)) ∧ (Instr.lookup 68 (.map (some C.bm)) (.string ⟨t.text.toArray⟩) true).run Tryz.prog w' = .ok (.tuple #[.int .i64 0, .bool false]) w' ∧ Pr C w' i d)
    (first | exact typ_reads (by assumption) HV.out | exact typ_reads2 (by assumption) (by assumption) HV.out)
    (first | (go_at_call 44; refine (token_any C _ i d (by assumption) t HA.out).mono ?_; rintro e w' ⟨rfl, hg⟩; unfold tkV))
  rename_i hS
  have P' := HPa.drew.call hg
  have HP2 := Lib.hid P'
  clear P' hg hS HPa HP1
  go_wp2_with fail
  refine (HF.out _ HP2.out.pr).mono ?_
  rintro e w2 ⟨rfl, hg2⟩
  exact ⟨rfl, At.errOut (HP2.out.call hg2) rfl⟩
set_option maxRecDepth 100000 in
set_option maxHeartbeats 2000000 in
theorem base_plain (k : Int) (hk : k ≠ 7 ∧ k ≠ 8) (C : Ctx) (w : World) (i d : Nat) (h : Pr C w i d) (hn : typeKind (hdT (C.toks.drop i)).text = some k) (hne : (hdT (C.toks.drop i)).text ≠ []) :
    Calls Tryz.prog 51 #[C.p] w (Out C w d (.ok (.mk k 0 [] []) (C.toks.drop (i + 1))) fun t => tyVal t w) := by
  have HP := Lib.hid h.at
  have hta := hd_at _ _ h.lt
  have hl := h.fin i _ hta (Or.inl hne)
  generalize hdT (C.toks.drop i) = t at *
  have HA := Lib.hid hta
  have HV : Hid (typesV ⟨t.text.toArray⟩ = .tuple #[.int .i64 k, .bool true]) := by show _ = _; simp [typesV, hn]
  have hlen := h.len
  have k7 : (k == 7) = false := by simpa using hk.1
  have k8 : (k == 8) = false := by simpa using hk.2
  have hbp := lt_of_heap h.blk
  have hp : C.p = .pointer (some ⟨C.bp, 0, none⟩) := rfl
  have hf := field2
  clear h hta hn hne hk
  go_enter Tryz.func51, Tryz.ntmps51
  go_wp2_with fail
  have HPa := HP.out.alloc (.cells #[.int .i64 0, .int .i64 0, .string ⟨#[]⟩, .slice none 0 0] 25)
  have HP1 := HPa.drew.pr
  go_region_held3 (fun w' => w'.cell? ⟨C.bp, 3, none⟩ = some (.map (some C.bm)) ∧ (Instr.lookup 68 (.map (some C.bm)) (.string ⟨t.text.toArray⟩) true).run Tryz.prog w' = .ok (.tuple #[.int .i64 k, .bool true]) w' ∧ Pr C w' i d)
    (first | exact typ_reads (by assumption) HV.out | exact typ_reads2 (by assumption) (by assumption) HV.out)
    (first | (go_at_call 44; refine (token_any C _ i d (by assumption) t HA.out).mono ?_; rintro e w' ⟨rfl, hg⟩; unfold tkV))
  rename_i hS
  have P' := HPa.drew.call hg
  have HP2 := Lib.hid P'
  obtain ⟨_, c1, _, _, _, f1, _, _⟩ := cells4_of w' C.bp _ _ _ _ _ P'.pr.blk
  obtain ⟨r0, r1, r2, r3, e0, e1, e2, e3⟩ := cells4_of w' w.heap.size _ _ _ _ _ (new_is (undrew hg) (by simp))
  have hz := hg.size
  simp at hz
  have hbp' : C.bp < w'.heap.size := by omega
  have hz' : w.heap.size < w'.heap.size := by omega
  have n1 : ¬ w.heap.size = C.bp := by omega
  have n2 : ¬ C.bp = w.heap.size := by omega
  clear P' hg hS HPa HP1
  go_wp2_with fail
  refine bodyPost_ret (v := tyV (.mk k 0 [] []) (.slice none 0 0)) (by simp [results, Tryz.results51, go_sem, hz', r0, r1, r2, r3]; rfl) rfl ?_
  refine At.okOut (i' := i + 1) ?_ rfl ⟨_, rfl, RepOf.nil _ _⟩ rfl
  refine At.alloc (At.set (At.set (At.set (At.set ?_ (Nat.le_refl _) _) (Nat.le_refl _) _) (Nat.le_refl _) _) (Nat.le_refl _) _) _
  exact At.next HP2.out hl (by omega)
/-- A block stands: behind a call, a new block, a store elsewhere, a draw. -/
theorem blk_call {a b : World} {r : Option Nat} {k : Nat} {o : Obj} (h : a.heap[k]? = some o) (g : a.grownBy b r) (hr : r ≠ some k) : b.heap[k]? = some o := by
  rw [g.block k (lt_of_heap h) (fun e => hr e.symm)]; exact h
theorem blk_alloc {a : World} {k : Nat} {o : Obj} (h : a.heap[k]? = some o) (o' : Obj) : (a.alloc o').heap[k]? = some o := by
  rw [Below.heap_alloc _ _ _ (lt_of_heap h)]; exact h
theorem blk_set {a : World} {k : Nat} {o : Obj} (h : a.heap[k]? = some o) {p : Addr} (hp : k ≠ p.block) (v : Value) : (a.setCell p v).heap[k]? = some o := by
  rw [Below.heap_setCell _ _ _ _ hp]; exact h
theorem blk_new' (a : World) (o : Obj) (p : Addr) (v : Value) : ((a.setCell p v).alloc o).heap[a.heap.size]? = some o := by
  have := World.size_setCell a p v
  show ((a.setCell p v).heap.push o)[a.heap.size]? = some o
  rw [Array.getElem?_push, if_pos this.symm]
theorem blk_new (a : World) (o : Obj) : (a.alloc o).heap[a.heap.size]? = some o := by show (a.heap.push o)[a.heap.size]? = some o; simp
set_option maxRecDepth 100000 in
set_option maxHeartbeats 2000000 in
theorem base_rec7 (C : Ctx) (w : World) (i d : Nat) (h : Pr C w i d) (hn : typeKind (hdT (C.toks.drop i)).text = some 7) (hne : (hdT (C.toks.drop i)).text ≠ []) :
    Calls Tryz.prog 51 #[C.p] w (Out C w d ((nameP (C.toks.drop (i + 1))).bind fun nm r => .ok (.mk 7 0 nm []) r) fun t => tyVal t w) := by
  have HP := Lib.hid h.at
  have hta := hd_at _ _ h.lt
  have hl := h.fin i _ hta (Or.inl hne)
  generalize hdT (C.toks.drop i) = t at *
  have HA := Lib.hid hta
  have HV : Hid (typesV ⟨t.text.toArray⟩ = .tuple #[.int .i64 7, .bool true]) := by show _ = _; simp [typesV, hn]
  have hlen := h.len
  have HN := Lib.hid (fun w' d (h' : Pr C w' (i + 1) d) => name_any C w' (i + 1) d h')
  generalize nameP (C.toks.drop (i + 1)) = R at HN ⊢
  have hbp := lt_of_heap h.blk
  have hp : C.p = .pointer (some ⟨C.bp, 0, none⟩) := rfl
  have hf := field2
  clear h hta hn hne
  go_enter Tryz.func51, Tryz.ntmps51
  go_wp2_with fail
  have HPa := HP.out.alloc (.cells #[.int .i64 0, .int .i64 0, .string ⟨#[]⟩, .slice none 0 0] 25)
  have HP1 := HPa.drew.pr
  go_region_held3 (fun w' => w'.cell? ⟨C.bp, 3, none⟩ = some (.map (some C.bm)) ∧ (Instr.lookup 68 (.map (some C.bm)) (.string ⟨t.text.toArray⟩) true).run Tryz.prog w' = .ok (.tuple #[.int .i64 7, .bool true]) w' ∧ Pr C w' i d)
    (first | exact typ_reads (by assumption) HV.out | exact typ_reads2 (by assumption) (by assumption) HV.out)
    (first | (go_at_call 44; refine (token_any C _ i d (by assumption) t HA.out).mono ?_; rintro e w' ⟨rfl, hg⟩; unfold tkV))
  rename_i hS
  have P' := HPa.drew.call hg
  have HP2 := Lib.hid P'
  obtain ⟨_, c1, _, _, _, f1, _, _⟩ := cells4_of w' C.bp _ _ _ _ _ P'.pr.blk
  have HR1 := Lib.hid (new_is (undrew hg) (by simp))
  have hz := hg.size
  simp at hz
  have hbp' : C.bp < w'.heap.size := by omega
  have hz' : w.heap.size < w'.heap.size := by omega
  have n1 : ¬ w.heap.size = C.bp := by omega
  have n2 : ¬ C.bp = w.heap.size := by omega
  clear P' hg hS HPa HP1
  go_wp2_with fail
  have P3 := (HP2.out.next hl (v := (i : Int) + 1) (by omega)).alloc (.cells #[.int .i64 7, .int .i64 0, .string ⟨#[]⟩, .slice none 0 0] 25)
  have B1 := Lib.hid (blk_alloc (blk_set HR1.out (p := ⟨C.bp, 1, none⟩) n1 (.int .i64 ((i : Int) + 1))) (.cells #[.int .i64 7, .int .i64 0, .string ⟨#[]⟩, .slice none 0 0] 25))
  have B2 := Lib.hid (blk_new' w' (.cells #[.int .i64 7, .int .i64 0, .string ⟨#[]⟩, .slice none 0 0] 25) ⟨C.bp, 1, none⟩ (.int .i64 ((i : Int) + 1)))
  have HP3 := Lib.hid P3
  clear P3
  refine (HN.out _ d HP3.out.pr).mono ?_
  clear HN
  cases R with
  | err p er =>
    rintro e w3 ⟨hg, i', d', rfl, hdd, hp3⟩
    exact ⟨rfl, (HP3.out.turn hg hp3).errOut rfl⟩
  | ok nm r =>
    rintro e w3 ⟨hg, v, i', rfl, hv, hp3, hd⟩
    have hv' : v = .string ⟨nm.toArray⟩ := hv
    subst hv'
    have HP4 := Lib.hid (HP3.out.turn hg hp3)
    have HD := Lib.hid hd
    have C1 := blk_call B1.out hg (by simp; omega)
    have C2 := blk_call B2.out hg (by simp; omega)
    obtain ⟨s0, s1, s2, s3, e0, e1, e2, e3⟩ := cells4_of w3 w.heap.size _ _ _ _ _ C1
    obtain ⟨q0, q1, q2, q3, g0, g1, g2, g3⟩ := cells4_of w3 w'.heap.size _ _ _ _ _ C2
    have hz3 := hg.size
    simp at hz3
    have hz4 : w'.heap.size < w3.heap.size := by omega
    have hz5 : w.heap.size < w3.heap.size := by omega
    have n3 : ¬ w.heap.size = w'.heap.size := by omega
    have n4 : ¬ w'.heap.size = w.heap.size := by omega
    clear hg hp3 hd C1 C2 hv c1 f1
    go_wp2_with fail
    refine bodyPost_ret (v := tyV (.mk 7 0 nm []) (.slice none 0 0)) (by simp [results, Tryz.results51, go_sem, s0, s1, s2, s3]; rfl) rfl ?_
    refine At.okOut (i' := i') ?_ rfl ⟨_, rfl, RepOf.nil _ _⟩ HD.out
    exact At.set (At.set (At.set (At.set (At.set HP4.out (Nat.le_of_lt hz') _) (Nat.le_refl _) _) (Nat.le_refl _) _) (Nat.le_refl _) _) (Nat.le_refl _) _
set_option maxRecDepth 100000 in
set_option maxHeartbeats 2000000 in
theorem base_rec8 (C : Ctx) (w : World) (i d : Nat) (h : Pr C w i d) (hn : typeKind (hdT (C.toks.drop i)).text = some 8) (hne : (hdT (C.toks.drop i)).text ≠ []) :
    Calls Tryz.prog 51 #[C.p] w (Out C w d ((nameP (C.toks.drop (i + 1))).bind fun nm r => .ok (.mk 8 0 nm []) r) fun t => tyVal t w) := by
  have HP := Lib.hid h.at
  have hta := hd_at _ _ h.lt
  have hl := h.fin i _ hta (Or.inl hne)
  generalize hdT (C.toks.drop i) = t at *
  have HA := Lib.hid hta
  have HV : Hid (typesV ⟨t.text.toArray⟩ = .tuple #[.int .i64 8, .bool true]) := by show _ = _; simp [typesV, hn]
  have hlen := h.len
  have HN := Lib.hid (fun w' d (h' : Pr C w' (i + 1) d) => name_any C w' (i + 1) d h')
  generalize nameP (C.toks.drop (i + 1)) = R at HN ⊢
  have hbp := lt_of_heap h.blk
  have hp : C.p = .pointer (some ⟨C.bp, 0, none⟩) := rfl
  have hf := field2
  clear h hta hn hne
  go_enter Tryz.func51, Tryz.ntmps51
  go_wp2_with fail
  have HPa := HP.out.alloc (.cells #[.int .i64 0, .int .i64 0, .string ⟨#[]⟩, .slice none 0 0] 25)
  have HP1 := HPa.drew.pr
  go_region_held3 (fun w' => w'.cell? ⟨C.bp, 3, none⟩ = some (.map (some C.bm)) ∧ (Instr.lookup 68 (.map (some C.bm)) (.string ⟨t.text.toArray⟩) true).run Tryz.prog w' = .ok (.tuple #[.int .i64 8, .bool true]) w' ∧ Pr C w' i d)
    (first | exact typ_reads (by assumption) HV.out | exact typ_reads2 (by assumption) (by assumption) HV.out)
    (first | (go_at_call 44; refine (token_any C _ i d (by assumption) t HA.out).mono ?_; rintro e w' ⟨rfl, hg⟩; unfold tkV))
  rename_i hS
  have P' := HPa.drew.call hg
  have HP2 := Lib.hid P'
  obtain ⟨_, c1, _, _, _, f1, _, _⟩ := cells4_of w' C.bp _ _ _ _ _ P'.pr.blk
  have HR1 := Lib.hid (new_is (undrew hg) (by simp))
  have hz := hg.size
  simp at hz
  have hbp' : C.bp < w'.heap.size := by omega
  have hz' : w.heap.size < w'.heap.size := by omega
  have n1 : ¬ w.heap.size = C.bp := by omega
  have n2 : ¬ C.bp = w.heap.size := by omega
  clear P' hg hS HPa HP1
  go_wp2_with fail
  have P3 := (HP2.out.next hl (v := (i : Int) + 1) (by omega)).alloc (.cells #[.int .i64 8, .int .i64 0, .string ⟨#[]⟩, .slice none 0 0] 25)
  have B1 := Lib.hid (blk_alloc (blk_set HR1.out (p := ⟨C.bp, 1, none⟩) n1 (.int .i64 ((i : Int) + 1))) (.cells #[.int .i64 8, .int .i64 0, .string ⟨#[]⟩, .slice none 0 0] 25))
  have B2 := Lib.hid (blk_new' w' (.cells #[.int .i64 8, .int .i64 0, .string ⟨#[]⟩, .slice none 0 0] 25) ⟨C.bp, 1, none⟩ (.int .i64 ((i : Int) + 1)))
  have HP3 := Lib.hid P3
  clear P3
  refine (HN.out _ d HP3.out.pr).mono ?_
  clear HN
  cases R with
  | err p er =>
    rintro e w3 ⟨hg, i', d', rfl, hdd, hp3⟩
    exact ⟨rfl, (HP3.out.turn hg hp3).errOut rfl⟩
  | ok nm r =>
    rintro e w3 ⟨hg, v, i', rfl, hv, hp3, hd⟩
    have hv' : v = .string ⟨nm.toArray⟩ := hv
    subst hv'
    have HP4 := Lib.hid (HP3.out.turn hg hp3)
    have HD := Lib.hid hd
    have C1 := blk_call B1.out hg (by simp; omega)
    have C2 := blk_call B2.out hg (by simp; omega)
    obtain ⟨s0, s1, s2, s3, e0, e1, e2, e3⟩ := cells4_of w3 w.heap.size _ _ _ _ _ C1
    obtain ⟨q0, q1, q2, q3, g0, g1, g2, g3⟩ := cells4_of w3 w'.heap.size _ _ _ _ _ C2
    have hz3 := hg.size
    simp at hz3
    have hz4 : w'.heap.size < w3.heap.size := by omega
    have hz5 : w.heap.size < w3.heap.size := by omega
    have n3 : ¬ w.heap.size = w'.heap.size := by omega
    have n4 : ¬ w'.heap.size = w.heap.size := by omega
    clear hg hp3 hd C1 C2 hv c1 f1
    go_wp2_with fail
    refine bodyPost_ret (v := tyV (.mk 8 0 nm []) (.slice none 0 0)) (by simp [results, Tryz.results51, go_sem, s0, s1, s2, s3]; rfl) rfl ?_
    refine At.okOut (i' := i') ?_ rfl ⟨_, rfl, RepOf.nil _ _⟩ HD.out
    exact At.set (At.set (At.set (At.set (At.set HP4.out (Nat.le_of_lt hz') _) (Nat.le_refl _) _) (Nat.le_refl _) _) (Nat.le_refl _) _) (Nat.le_refl _) _
theorem typeKind_ne {s : List UInt8} {k : Int} (h : typeKind s = some k) : s ≠ [] := by
  intro e; subst e; simp [typeKind] at h
theorem base_any (C : Ctx) (w : World) (i d : Nat) (h : Pr C w i d) :
    Calls Tryz.prog 51 #[C.p] w (Out C w d (baseP (C.toks.drop i)) fun t => tyVal t w) := by
  unfold baseP
  cases hn : typeKind (hdT (C.toks.drop i)).text with
  | none => exact base_no C w i d h hn
  | some k =>
    simp only [tl_at]
    by_cases h7 : k = 7
    · subst h7; rw [if_pos (by simp)]; exact base_rec7 C w i d h hn (typeKind_ne hn)
    · by_cases h8 : k = 8
      · subst h8; rw [if_pos (by simp)]; exact base_rec8 C w i d h hn (typeKind_ne hn)
      · rw [if_neg (by simp [h7, h8])]; exact base_plain k ⟨h7, h8⟩ C w i d h hn (typeKind_ne hn)
end Go.Proofs.YtkbplcfehllbjaaGreatDoor
/- Trees that stand while a call goes on; pointer, stars. -/
namespace Go.Proofs.YtkbplcfehllbjaaGreatDoor
open Go.RowKit
/-- Blocks from B on, but for X's. -/
def Sx (B : Nat) (X : List Nat) : Nat → Prop := fun g => B ≤ g ∧ g ∉ X
/-- b has a's blocks that S names, and no fewer. -/
structure Kept (S : Nat → Prop) (a b : World) : Prop where
  size : a.heap.size ≤ b.heap.size
  same : SameOn S a b
theorem Kept.refl (S : Nat → Prop) (a : World) : Kept S a a := ⟨Nat.le_refl _, fun _ _ _ => rfl⟩
theorem Kept.trans {S : Nat → Prop} {a b c : World} (h : Kept S a b) (k : Kept S b c) : Kept S a c :=
  ⟨Nat.le_trans h.size k.size, fun g hs hg => (k.same g hs (Nat.lt_of_lt_of_le hg h.size)).trans (h.same g hs hg)⟩
theorem Kept.alloc {S : Nat → Prop} {a b : World} (h : Kept S a b) (o : Obj) : Kept S a (b.alloc o) :=
  h.trans ⟨by simp, fun g _ hg => Below.heap_alloc _ _ _ hg⟩
theorem Kept.drew {S : Nat → Prop} {a b : World} (h : Kept S a b) : Kept S a b.drew := ⟨h.size, h.same⟩
theorem Kept.set {B : Nat} {X : List Nat} {a b : World} (h : Kept (Sx B X) a b) {p : Addr} (hp : p.block ∈ X) (v : Value) : Kept (Sx B X) a (b.setCell p v) :=
  h.trans ⟨by simp [World.setCell], fun g hs _ => Below.heap_setCell _ _ _ _ (fun e => hs.2 (e ▸ hp))⟩
theorem Kept.setLow {B : Nat} {X : List Nat} {a b : World} (h : Kept (Sx B X) a b) {p : Addr} (hp : p.block < B) (v : Value) : Kept (Sx B X) a (b.setCell p v) :=
  h.trans ⟨by simp [World.setCell], fun g hs _ => Below.heap_setCell _ _ _ _ (by have := hs.1; omega)⟩
theorem Kept.call {B : Nat} {X : List Nat} {a b c : World} {r : Nat} (h : Kept (Sx B X) a b) (g : b.grownBy c (some r)) (hr : r < B) : Kept (Sx B X) a c :=
  h.trans ⟨g.size, fun k hs hk => g.block k hk (by have := hs.1; simp; omega)⟩
theorem Kept.call0 {S : Nat → Prop} {a b c : World} (h : Kept S a b) (g : b.grownBy c none) : Kept S a c :=
  h.trans ⟨g.size, fun k _ hk => g.block k hk (by simp)⟩
theorem RepOf.kept {S : Nat → Prop} {a b : World} {v : Value} {l : List Ty} (h : RepOf a S v l) (k : Kept S a b) : RepOf b S v l := h.mono (fun _ hs _ => hs) k.same
theorem RepK.kept {S : Nat → Prop} {a b : World} {v : Value} {l : List Nd} (h : RepK a S v l) (k : Kept S a b) : RepK b S v l := h.mono (fun _ hs _ => hs) k.same
theorem RepOf.into {A B : Nat} {X : List Nat} {a : World} {v : Value} {l : List Ty} (h : RepOf a (fun g => A ≤ g) v l) (hB : B ≤ A) (hX : ∀ x ∈ X, x < A) : RepOf a (Sx B X) v l :=
  h.mono (fun g hs _ => ⟨Nat.le_trans hB hs, fun hg => by have : A ≤ g := hs; have := hX g hg; omega⟩) (fun _ _ _ => rfl)
theorem RepK.into {A B : Nat} {X : List Nat} {a : World} {v : Value} {l : List Nd} (h : RepK a (fun g => A ≤ g) v l) (hB : B ≤ A) (hX : ∀ x ∈ X, x < A) : RepK a (Sx B X) v l :=
  h.mono (fun g hs _ => ⟨Nat.le_trans hB hs, fun hg => by have : A ≤ g := hs; have := hX g hg; omega⟩) (fun _ _ _ => rfl)
/-- What was there already is none of the new blocks X. -/
theorem RepOf.old {B : Nat} {X : List Nat} {a : World} {v : Value} {l : List Ty} (h : RepOf a (fun g => B ≤ g) v l) (hX : ∀ x ∈ X, a.heap.size ≤ x) : RepOf a (Sx B X) v l :=
  h.mono (fun g hs hl => ⟨hs, fun hg => by have := hX g hg; omega⟩) (fun _ _ _ => rfl)
theorem RepK.old {B : Nat} {X : List Nat} {a : World} {v : Value} {l : List Nd} (h : RepK a (fun g => B ≤ g) v l) (hX : ∀ x ∈ X, a.heap.size ≤ x) : RepK a (Sx B X) v l :=
  h.mono (fun g hs hl => ⟨hs, fun hg => by have := hX g hg; omega⟩) (fun _ _ _ => rfl)
theorem RepOf.out {B A : Nat} {X : List Nat} {a : World} {v : Value} {l : List Ty} (h : RepOf a (Sx B X) v l) (hA : A ≤ B) : RepOf a (fun g => A ≤ g) v l :=
  h.mono (fun _ hs _ => Nat.le_trans hA hs.1) (fun _ _ _ => rfl)
theorem RepK.out {B A : Nat} {X : List Nat} {a : World} {v : Value} {l : List Nd} (h : RepK a (Sx B X) v l) (hA : A ≤ B) : RepK a (fun g => A ≤ g) v l :=
  h.mono (fun _ hs _ => Nat.le_trans hA hs.1) (fun _ _ _ => rfl)
theorem RepOf.one {w : World} {S : Nat → Prop} {t : Ty} {ofv : Value} {L : Nat} (h : RepOf w S ofv t.of) (hb : w.heap[L]? = some (.cells #[.int .i64 t.kind, .int .i64 t.num, .string ⟨t.name.toArray⟩, ofv] 25 (0, 0))) (hS : S L) :
    RepOf w S (.slice (some ⟨L, 0, none⟩) 1 1) [t] :=
  ⟨tyC t ofv, ⟨rfl, .inr ⟨L, 1, _, rfl, Nat.zero_le _, hb, Nat.le_refl _, by unfold maxLen; omega, rfl, rfl⟩⟩, fun g hg => by simp [Value.ownBlock] at hg; subst hg; exact hS, ⟨tyC t ofv, [], by simp, RepT.of h, rfl⟩⟩
theorem RepOf.isSlice {S : Nat → Prop} {a : World} {v : Value} {l : List Ty} (h : RepOf a S v l) : ∃ sa sn sc, v = .slice sa sn sc := by
  obtain ⟨cells, ho, _, _⟩ := h
  rcases ho.2 with ⟨hv, _⟩ | ⟨g, cap, cur, hv, _⟩
  · exact ⟨_, _, _, hv⟩
  · exact ⟨_, _, _, hv⟩
theorem RepK.isSlice {S : Nat → Prop} {a : World} {v : Value} {l : List Nd} (h : RepK a S v l) : ∃ sa sn sc, v = .slice sa sn sc := by
  obtain ⟨cells, ho, _, _⟩ := h
  rcases ho.2 with ⟨hv, _⟩ | ⟨g, cap, cur, hv, _⟩
  · exact ⟨_, _, _, hv⟩
  · exact ⟨_, _, _, hv⟩
/-- What S names, and what is new. -/
def Su (S : Nat → Prop) (n : Nat) : Nat → Prop := fun g => S g ∨ n ≤ g
theorem RepOf.join {B n : Nat} {X : List Nat} {a : World} {v : Value} {l : List Ty} (h : RepOf a (Su (Sx B X) n) v l) (hB : B ≤ n) (hX : ∀ x ∈ X, x < n) : RepOf a (Sx B X) v l :=
  h.mono (fun g hs _ => hs.elim id fun hn => ⟨Nat.le_trans hB hn, fun hg => by have := hX g hg; omega⟩) (fun _ _ _ => rfl)
theorem RepK.join {B n : Nat} {X : List Nat} {a : World} {v : Value} {l : List Nd} (h : RepK a (Su (Sx B X) n) v l) (hB : B ≤ n) (hX : ∀ x ∈ X, x < n) : RepK a (Sx B X) v l :=
  h.mono (fun g hs _ => hs.elim id fun hn => ⟨Nat.le_trans hB hn, fun hg => by have := hX g hg; omega⟩) (fun _ _ _ => rfl)
theorem RepOf.left {S : Nat → Prop} {n : Nat} {a : World} {v : Value} {l : List Ty} (h : RepOf a S v l) : RepOf a (Su S n) v l := h.mono (fun _ hs _ => .inl hs) (fun _ _ _ => rfl)
theorem RepK.left {S : Nat → Prop} {n : Nat} {a : World} {v : Value} {l : List Nd} (h : RepK a S v l) : RepK a (Su S n) v l := h.mono (fun _ hs _ => .inl hs) (fun _ _ _ => rfl)
theorem RepOf.right {S : Nat → Prop} {m n : Nat} {a : World} {v : Value} {l : List Ty} (h : RepOf a (fun g => m ≤ g) v l) (hn : n ≤ m) : RepOf a (Su S n) v l := h.mono (fun _ hs _ => .inr (Nat.le_trans hn hs)) (fun _ _ _ => rfl)
theorem RepK.right {S : Nat → Prop} {m n : Nat} {a : World} {v : Value} {l : List Nd} (h : RepK a (fun g => m ≤ g) v l) (hn : n ≤ m) : RepK a (Su S n) v l := h.mono (fun _ hs _ => .inr (Nat.le_trans hn hs)) (fun _ _ _ => rfl)
/-- S's blocks that were there, in a world with more. -/
theorem RepOf.grow {S : Nat → Prop} {a b : World} {v : Value} {l : List Ty} (h : RepOf a S v l) (g : a.grownBy b none) : RepOf b S v l := h.kept ((Kept.refl _ _).call0 g)
theorem RepK.grow {S : Nat → Prop} {a b : World} {v : Value} {l : List Nd} (h : RepK a S v l) (g : a.grownBy b none) : RepK b S v l := h.kept ((Kept.refl _ _).call0 g)
set_option maxRecDepth 100000 in
set_option maxHeartbeats 1000000 in
theorem pointer_any (t : Ty) (ofv : Value) (S : Nat → Prop) (w : World) (h : RepOf w S ofv t.of) :
    Calls Tryz.prog 72 #[tyV t ofv] w fun e w' => w.grownBy w' none ∧ ∃ v, e = .returned (tyV t.ptr v) ∧ RepOf w' (Su S w.heap.size) v t.ptr.of := by
  have HR := Lib.hid h
  clear h
  unfold tyV
  go_enter Tryz.func72, Tryz.ntmps72
  go_wp2_with fail
  refine bodyPost_ret (v := tyV t.ptr (.slice (some ⟨w.heap.size + 1 + 1, 0, none⟩) 1 1)) (by simp [results, Tryz.results72, go_sem]; rfl) rfl ⟨by repeat (first | with_reducible exact grownBy_refl _ _ | with_reducible assumption | with_reducible refine World.grownBy.gr_drew ?_ | with_reducible refine World.grownBy.gr_set ?_ (by simp) _ | with_reducible refine gr_alloc ?_ _), _, rfl, ?_⟩
  refine RepOf.one (HR.out.left.kept (((Kept.refl _ _).alloc _).alloc _ |>.alloc _)) ?_ (Or.inr (by omega))
  have := blk_new ((w.alloc (.cells #[.int .i64 t.kind, .int .i64 t.num, .string ⟨t.name.toArray⟩, ofv] 25)).alloc (.cells #[.int .i64 5, .int .i64 0, .string ⟨#[]⟩, .slice (some ⟨w.heap.size + 1 + 1, 0, none⟩) 1 1] 25)) (.cells #[.int .i64 t.kind, .int .i64 t.num, .string ⟨t.name.toArray⟩, ofv] 25)
  simpa using this
def StarPost (C : Ctx) (S : Nat → Prop) (w : World) (d : Nat) (r : Ty × List T4) (e : Ending) (w' : World) : Prop :=
  w.grownBy w' (some C.bp) ∧ ∃ v i', e = .returned (tyV r.1 v) ∧ RepOf w' (Su S w.heap.size) v r.1.of ∧ Pr C w' i' d ∧ C.toks.drop i' = r.2
theorem drop_cons {l : List T4} {i : Nat} (h : i < l.length) : l.drop i = hdT (l.drop i) :: l.drop (i + 1) := by
  rw [List.drop_eq_getElem_cons h]; rfl
theorem stars_no {l : List T4} {i : Nat} (t : Ty) (h : i < l.length) (hs : isP [42] (l.drop i) = false) : starsP (l.drop i) t = (t, l.drop i) := by
  have hs' : ¬ (hdT (l.drop i)).text = [42] := by unfold isP at hs; simpa using hs
  rw [drop_cons h]; unfold starsP
  rw [if_neg hs']
theorem stars_yes {l : List T4} {i : Nat} (t : Ty) (h : i < l.length) (hs : isP [42] (l.drop i) = true) : starsP (l.drop i) t = starsP (l.drop (i + 1)) t.ptr := by
  have hs' : (hdT (l.drop i)).text = [42] := by unfold isP at hs; simpa using hs
  rw [drop_cons h]
  conv => lhs; unfold starsP
  rw [if_pos hs']
set_option maxRecDepth 100000 in
set_option maxHeartbeats 4000000 in
theorem stars_any (C : Ctx) (B : Nat) (X : List Nat) (hbB : C.bp < B) (t : Ty) (ofv : Value) (w : World) (i d : Nat) (h : Pr C w i d) (hB : B ≤ w.heap.size) (hX : ∀ x ∈ X, x < w.heap.size) (hr : RepOf w (Sx B X) ofv t.of) :
    Calls Tryz.prog 54 #[C.p, tyV t ofv] w (StarPost C (Sx B X) w d (starsP (C.toks.drop i) t)) := by
  have HP := Lib.hid h.at
  have hle : ∀ g, g < w.heap.size → g ∉ [w.heap.size, w.heap.size + 1] := fun g hg => by simp; omega
  have HR := Lib.hid (show RepOf w (Sx B (w.heap.size :: (w.heap.size + 1) :: X)) ofv t.of from hr.mono (fun g hs hl => ⟨hs.1, by simp; exact ⟨by omega, by omega, hs.2⟩⟩) (fun _ _ _ => rfl))
  have hlen := h.len
  have hbp := lt_of_heap h.blk
  clear h hr hle
  have HX := Lib.hid hX
  clear hX
  unfold tyV
  go_enter Tryz.func54, Tryz.ntmps54
  go_wp2_with fail
  go_loopg [] (C.toks.length - i) (fun g wr => ∃ (i' : Nat) (t' : Ty) (v' : Value), g = C.toks.length - i' ∧ i' < C.toks.length ∧ Hid (At C w wr i' d) ∧ Hid (wr.heap[w.heap.size]? = some (.cells #[.int .i64 t'.kind, .int .i64 t'.num, .string ⟨t'.name.toArray⟩, v'] 25 (0, 0))) ∧
    Hid (wr.heap[w.heap.size + 1]? = some (.cells #[.int .i64 0, .int .i64 0, .string ⟨#[]⟩, .slice none 0 0] 25 (0, 0))) ∧ Hid (RepOf wr (Sx B (w.heap.size :: (w.heap.size + 1) :: X)) v' t'.of) ∧ Hid (starsP (C.toks.drop i) t = starsP (C.toks.drop i') t') ∧ w.heap.size + 1 < wr.heap.size)
  case atStart =>
    have h1 := ((HP.out.alloc (.cells #[.int .i64 t.kind, .int .i64 t.num, .string ⟨t.name.toArray⟩, ofv] 25)).alloc (.cells #[.int .i64 0, .int .i64 0, .string ⟨#[]⟩, .slice none 0 0] 25))
    exact ⟨i, t, ofv, rfl, HP.out.pr.lt, h1, blk_alloc (blk_new w _) _, (by have := blk_new (w.alloc (.cells #[.int .i64 t.kind, .int .i64 t.num, .string ⟨t.name.toArray⟩, ofv] 25)) (.cells #[.int .i64 0, .int .i64 0, .string ⟨#[]⟩, .slice none 0 0] 25); simpa [Hid] using this), HR.out.kept (((Kept.refl _ _).alloc _).alloc _), rfl, by simp⟩
  case round =>
    obtain ⟨i', t', v', rfl, hi', hat, hb1, hb2, hR, hS, hsz⟩ := hrel
    obtain ⟨sa, sn, sc, rfl⟩ := hR.out.isSlice
    cases hs : isP [42] (C.toks.drop i') with
    | false =>
      have HN := Lib.hid (fun w' (h' : Pr C w' i' d) => skip_no C w' i' d h' [42] hs)
      have HE := Lib.hid (hS.out.trans (stars_no t' hi' hs))
      clear hs
      go_wp2_with fail
      refine (HN.out _ hat.out.pr).mono ?_
      rintro e w1 ⟨rfl, hg⟩
      have HG := Lib.hid hg
      obtain ⟨r0, r1, r2, r3, e0, e1, e2, e3⟩ := cells4_of w1 w.heap.size _ _ _ _ _ (blk_call hb1.out hg (by simp))
      obtain ⟨q0, q1, q2, q3, g0, g1, g2, g3⟩ := cells4_of w1 (w.heap.size + 1) _ _ _ _ _ (blk_call hb2.out hg (by simp))
      have hz := hg.size
      have z1 : w.heap.size < w1.heap.size := by omega
      have z2 : w.heap.size + 1 < w1.heap.size := by omega
      clear hg
      go_wp2_with fail
      refine bodyPost_ret (v := tyV t' (.slice sa sn sc)) (by simp [results, Tryz.results54, go_sem, q0, q1, q2, q3]; rfl) rfl ?_
      rw [HE.out]
      have A := At.set (At.set (At.set (At.set (hat.out.call HG.out) (p := ⟨w.heap.size + 1, 0, none⟩) (by simp) (.int .i64 t'.kind)) (p := ⟨w.heap.size + 1, 1, none⟩) (by simp) (.int .i64 t'.num)) (p := ⟨w.heap.size + 1, 2, none⟩) (by simp) (.string ⟨t'.name.toArray⟩)) (p := ⟨w.heap.size + 1, 3, none⟩) (by simp) (.slice sa sn sc)
      refine ⟨A.gr, _, i', rfl, ?_, A.pr, rfl⟩
      have K := ((((Kept.refl (Sx B (w.heap.size :: (w.heap.size + 1) :: X)) wr).call0 HG.out).set (p := ⟨w.heap.size + 1, 0, none⟩) (by simp) (.int .i64 t'.kind)).set (p := ⟨w.heap.size + 1, 1, none⟩) (by simp) (.int .i64 t'.num)).set (p := ⟨w.heap.size + 1, 2, none⟩) (by simp) (.string ⟨t'.name.toArray⟩) |>.set (p := ⟨w.heap.size + 1, 3, none⟩) (by simp) (.slice sa sn sc)
      exact (hR.out.kept K).mono (fun g hs _ => .inl ⟨hs.1, fun hg => hs.2 (by simp [hg])⟩) (fun _ _ _ => rfl)
    | true =>
      have HY := Lib.hid (fun w' (h' : Pr C w' i' d) => skip_yes C w' i' d h' [42] (by simp) hs)
      have hl := next_lt hat.out.pr (by simp) hs
      have HE := Lib.hid (hS.out.trans (stars_yes t' hi' hs))
      clear hs
      go_wp2_with fail
      refine (HY.out _ hat.out.pr).mono ?_
      rintro e w1 ⟨rfl, hg, hp1⟩
      have HA1 := Lib.hid (hat.out.turn hg hp1)
      have hR1 := Lib.hid (hR.out.kept ((Kept.refl _ _).call hg hbB))
      have B1 := Lib.hid (blk_call hb1.out hg (by simp; omega))
      have B2 := Lib.hid (blk_call hb2.out hg (by simp; omega))
      obtain ⟨r0, r1, r2, r3, _, _, _, _⟩ := cells4_of w1 w.heap.size _ _ _ _ _ B1.out
      have hz := hg.size
      clear hg hp1
      go_wp2_with fail
      refine (pointer_any t' (.slice sa sn sc) _ w1 hR1.out).mono ?_
      rintro e w2 ⟨hg2, v2, rfl, hr2⟩
      obtain ⟨s2, n2, c2, rfl⟩ := hr2.isSlice
      have HG2 := Lib.hid hg2
      have HR2 := Lib.hid (hr2.join (by omega) (by intro x hx; simp at hx; rcases hx with rfl | rfl | hx; omega; omega; have := HX.out x hx; omega))
      have D1 := blk_call B1.out hg2 (by simp)
      have D2 := Lib.hid (blk_call B2.out hg2 (by simp))
      clear r0 r1 r2 r3
      obtain ⟨r0, r1, r2, r3, e0, e1, e2, e3⟩ := cells4_of w2 w.heap.size _ _ _ _ _ D1
      have hz2 := hg2.size
      have HD1 := Lib.hid D1
      clear hg2 hr2 D1
      unfold tyV
      go_wp2_with fail
      go_roundg (C.toks.length - (i' + 1))
      case measure => omega
      case rel =>
        have A := At.set (At.set (At.set (At.set (HA1.out.call HG2.out) (p := ⟨w.heap.size, 0, none⟩) (by simp) (.int .i64 t'.ptr.kind)) (p := ⟨w.heap.size, 1, none⟩) (by simp) (.int .i64 t'.ptr.num)) (p := ⟨w.heap.size, 2, none⟩) (by simp) (.string ⟨t'.ptr.name.toArray⟩)) (p := ⟨w.heap.size, 3, none⟩) (by simp) (.slice s2 n2 c2)
        have K := ((((Kept.refl (Sx B (w.heap.size :: (w.heap.size + 1) :: X)) w2)).set (p := ⟨w.heap.size, 0, none⟩) (by simp) (.int .i64 t'.ptr.kind)).set (p := ⟨w.heap.size, 1, none⟩) (by simp) (.int .i64 t'.ptr.num)).set (p := ⟨w.heap.size, 2, none⟩) (by simp) (.string ⟨t'.ptr.name.toArray⟩) |>.set (p := ⟨w.heap.size, 3, none⟩) (by simp) (.slice s2 n2 c2)
        refine ⟨i' + 1, t'.ptr, _, rfl, hl, A, ?_, ?_, HR2.out.kept K, HE.out, ?_⟩
        · show _ = _
          simp [World.setCell, Array.getElem?_modify, HD1.out]
        · show _ = _
          simp [World.setCell, Array.getElem?_modify, D2.out]
        · simp [World.setCell]; omega
end Go.Proofs.YtkbplcfehllbjaaGreatDoor
/- sizes. -/
namespace Go.Proofs.YtkbplcfehllbjaaGreatDoor
open Go.RowKit
def intsV (l : List Int) : List Value := l.map (Value.int .i64)
def szVal (B : Nat) (l : List Int) (w' : World) (v : Value) : Prop := w'.ownsRow B 3 1 v l.length (intsV l)
theorem At.app {C : Ctx} {w0 w w' : World} {i d : Nat} {row : Option Nat} (h : At C w0 w i d) (g : w.grownBy w' row) (hr : ∀ k, row = some k → w0.heap.size ≤ k) : At C w0 w' i d := by
  have hb := fun k (hk : k < w0.heap.size) => g.block k (Nat.lt_of_lt_of_le hk h.gr.size) (fun e => by have := hr k e.symm; omega)
  have h1 := h.b1
  have h2 := h.b2
  have h3 := h.b3
  obtain ⟨o, ho, hl⟩ := h.pr.map
  refine ⟨⟨by rw [hb _ h1]; exact h.pr.blk, fun j u hu => ?_, ⟨o, by rw [hb _ h3]; exact ho, hl⟩, h.pr.lt, h.pr.ne1, h.pr.ne2, h.pr.fin, h.pr.len, h.pr.dle⟩, ?_, h1, h2, h3⟩
  · exact (World.cell?_of_block (w := w) (hb _ h2)).trans (h.pr.tok j u hu)
  · exact ⟨g.os.trans h.gr.os, g.tape.trans h.gr.tape, g.output.trans h.gr.output, Nat.le_trans h.gr.size g.size, fun k hk hn => (hb k hk).trans (h.gr.block k hk hn)⟩
theorem ownsRow_call {a b : World} {base e size n bp : Nat} {v : Value} {xs : List Value} (h : a.ownsRow base e size v n xs) (g : a.grownBy b (some bp)) (hb : bp < base) : b.ownsRow base e size v n xs :=
  h.kept g (by
    by_cases hv : v.ownBlock = some bp
    · have := (h.lt bp hv).1; omega
    · exact .inr hv)
theorem ownsRow_call0 {a b : World} {base e size n : Nat} {v : Value} {xs : List Value} (h : a.ownsRow base e size v n xs) (g : a.grownBy b none) : b.ownsRow base e size v n xs := h.kept g (Classical.em _)
theorem cells_at (W : World) (l : List Value) (t : TypeId) (fr : Nat × Nat) : ∀ (j : Nat) (u : Value), l[j]? = some u → (W.alloc (.cells l.toArray t fr)).cell? ((⟨W.heap.size, 0, none⟩ : Addr).add j) = some u := by
  intro j u h
  have hadd : (⟨W.heap.size, 0, none⟩ : Addr).add j = ⟨W.heap.size, j, none⟩ := by unfold Addr.add; split <;> simp_all
  rw [hadd, cell_of_row _ W.heap.size j l.toArray t fr (by show (W.heap.push _)[W.heap.size]? = _; simp)]
  simpa using h
/-- What was read, ahead of the rest. -/
def pre {α : Type} (acc : List α) (r : PR (List α)) : PR (List α) := r.bind fun l r => .ok (acc ++ l) r
theorem pre_ok {α : Type} (acc : List α) (a : α) (r : PR (List α)) : pre acc (r.bind fun l r3 => .ok (a :: l) r3) = pre (acc ++ [a]) r := by
  cases r <;> simp [pre]
theorem info3 : (Tryz.prog.info? 3).map (fun i => (i.zero, i.size, i.bytes)) = some (some (.int .i64 0), 1, 8) := by kernel_rfl
theorem sizes_no {ts : List T4} (hs : isP [91] ts = false) : sizesP ts = .ok [] ts := by
  match ts with
  | [] => rfl
  | [a] => rfl
  | a :: b :: r =>
    have : ¬ a.text = [91] := by unfold isP at hs; simpa [hdT] using hs
    unfold sizesP
    rw [if_neg this]
theorem sizes_yes {a b : T4} {r : List T4} (hs : a.text = [91]) : sizesP (a :: b :: r) =
    if b.kind = 3 ∧ (b.val = 0 ∨ 4096 < b.val) then .err b.pos 5 else (kindP 3 (b :: r)).bind fun t r1 => (wantP [93] r1).bind fun _ r2 => (sizesP r2).bind fun l r3 => .ok (t.val :: l) r3 := by
  conv => lhs; unfold sizesP
  rw [if_pos hs]
  by_cases h1 : b.kind = 3 ∧ (b.val = 0 ∨ 4096 < b.val)
  · rw [if_pos h1, if_pos h1]
  · rw [if_neg h1, if_neg h1]
    by_cases h2 : b.kind = 3
    · rw [if_pos h2]
      have : kindP 3 (b :: r) = .ok b r := by unfold kindP; simp [hdT, h2]
      rw [this]
      simp only [PR.bind_ok]
      match r with
      | [] => rfl
      | c :: r' =>
        show (if c.text = [93] then (sizesP r').bind fun l r'' => PR.ok (b.val :: l) r'' else PR.err c.pos 2) = _
        by_cases h3 : c.text = [93]
        · rw [if_pos h3]
          have : wantP [93] (c :: r') = .ok () r' := by unfold wantP isP; simp [hdT, h3]
          rw [this]; rfl
        · rw [if_neg h3]
          have : wantP [93] (c :: r') = .err c.pos 2 := by unfold wantP isP failP; simp [hdT, h3]
          rw [this]; rfl
    · rw [if_neg h2]
      have : kindP 3 (b :: r) = .err b.pos 2 := by unfold kindP failP; simp [hdT, h2]
      rw [this]; rfl
theorem pre_nil {α : Type} (r : PR (List α)) : pre [] r = r := by cases r <;> rfl
set_option maxRecDepth 100000 in
set_option maxHeartbeats 8000000 in
theorem sizes_any (C : Ctx) (w : World) (i d : Nat) (h : Pr C w i d) :
    Calls Tryz.prog 79 #[C.p] w (Out C w d (sizesP (C.toks.drop i)) (szVal w.heap.size)) := by
  have HP := Lib.hid h.at
  have hlen := h.len
  have hbp := lt_of_heap h.blk
  have hi0 := h.lt
  clear h
  go_enter Tryz.func79, Tryz.ntmps79
  go_wp2_with fail
  go_loopg [3] (C.toks.length - i) (fun g v wr => ∃ (i' : Nat) (acc : List Int), g = C.toks.length - i' ∧ i' < C.toks.length ∧ acc.length ≤ i' ∧ Hid (At C w wr i' d) ∧ Hid (szVal w.heap.size acc wr v) ∧ Hid (sizesP (C.toks.drop i) = pre acc (sizesP (C.toks.drop i'))))
  case atStart => exact ⟨i, [], rfl, hi0, Nat.zero_le _, HP.out, World.ownsRow_nil _ _ _ _, (pre_nil _).symm⟩
  case round =>
    obtain ⟨i', acc, rfl, hi', hacc, hat, hown, hS⟩ := hrel
    cases hs : isP [91] (C.toks.drop i') with
    | false =>
      have HN := Lib.hid (fun w' (h' : Pr C w' i' d) => skip_no C w' i' d h' [91] hs)
      have HE := Lib.hid (hS.out.trans (by rw [sizes_no hs]))
      clear hs
      go_wp2_with fail
      refine (HN.out _ hat.out.pr).mono ?_
      rintro e w1 ⟨rfl, hg⟩
      have HG := Lib.hid hg
      clear hg
      go_wp2_with fail
      go_ret
      refine (hat.out.call HG.out).okOut (a := acc) (rest := C.toks.drop i') (by rw [HE.out]; simp [pre]) ?_ rfl
      exact World.ownsRow.kept hown.out HG.out (Classical.em _)
    | true =>
      have hl := next_lt hat.out.pr (by simp) hs
      have hta := hd_at C.toks (i' + 1) hl
      have hs' : (hdT (C.toks.drop i')).text = [91] := by unfold isP at hs; simpa using hs
      have hSt := sizes_yes (b := hdT (C.toks.drop (i' + 1))) (r := C.toks.drop (i' + 1 + 1)) hs'
      rw [← drop_cons hl, ← drop_cons hi'] at hSt
      have HY := Lib.hid (fun w' (h' : Pr C w' i' d) => skip_yes C w' i' d h' [91] (by simp) hs)
      have HT := Lib.hid (fun w' (h' : Pr C w' (i' + 1) d) => token_any C w' (i' + 1) d h' _ hta)
      have HF := Lib.hid (fun w' (h' : Pr C w' (i' + 1) d) => fail_any 5 C w' (i' + 1) d h')
      have HK := Lib.hid (fun w' (h' : Pr C w' (i' + 1) d) => wantKind_any 3 (by omega) C w' (i' + 1) d h')
      generalize hb : hdT (C.toks.drop (i' + 1)) = b at *
      by_cases hbad : b.kind = 3 ∧ (b.val = 0 ∨ 4096 < b.val)
      · rw [if_pos hbad] at hSt
        have HE := Lib.hid (hS.out.trans (by rw [hSt]))
        have k3 : (b.kind == 3) = true := by simp [hbad.1]
        obtain ⟨_, hv⟩ := hbad
        clear hs hs' hSt hta hb
        by_cases hv0 : b.val = 0
        · have v0 : (b.val == 0) = true := by simp [hv0]
          clear hv hv0
          go_wp2_with fail
          refine (HY.out _ hat.out.pr).mono ?_
          rintro e w1 ⟨rfl, hg, hp1⟩
          have HA1 := Lib.hid (hat.out.turn hg hp1)
          clear hg hp1
          go_wp2_with fail
          refine (HT.out _ HA1.out.pr).mono ?_
          rintro e w2 ⟨rfl, hg2⟩
          have HA2 := Lib.hid (HA1.out.call hg2)
          clear hg2
          unfold tkV
          go_wp2_with fail
          refine (HF.out _ (HA2.out.alloc _).pr).mono ?_
          rintro e w3 ⟨rfl, hg3⟩
          exact ⟨rfl, ((HA2.out.alloc _).call hg3).errOut HE.out⟩
        · have v0 : (b.val == 0) = false := by simp [hv0]
          have v1 : decide (4096 < b.val) = true := by simp; omega
          clear hv hv0
          go_wp2_with fail
          refine (HY.out _ hat.out.pr).mono ?_
          rintro e w1 ⟨rfl, hg, hp1⟩
          have HA1 := Lib.hid (hat.out.turn hg hp1)
          clear hg hp1
          go_wp2_with fail
          refine (HT.out _ HA1.out.pr).mono ?_
          rintro e w2 ⟨rfl, hg2⟩
          have HA2 := Lib.hid (HA1.out.call hg2)
          clear hg2
          unfold tkV
          go_wp2_with fail
          refine (HF.out _ (HA2.out.alloc _).pr).mono ?_
          rintro e w3 ⟨rfl, hg3⟩
          exact ⟨rfl, ((HA2.out.alloc _).call hg3).errOut HE.out⟩
      · rw [if_neg hbad] at hSt
        have HE := Lib.hid (hS.out.trans (by rw [hSt]))
        generalize hR1 : kindP 3 (C.toks.drop (i' + 1)) = R1 at HE HK
        have hgood : ∀ t r, R1 = .ok t r → t = b ∧ b.kind = 3 ∧ r = C.toks.drop (i' + 2) := by
          intro t r e
          rw [← hR1] at e
          unfold kindP at e
          rw [hb] at e
          by_cases hk : b.kind = 3
          · rw [if_pos hk, tl_at] at e; cases e; exact ⟨rfl, hk, rfl⟩
          · rw [if_neg hk] at e; cases e
        have HGd := Lib.hid hgood
        have hk3 : (b.kind == 3) = true ∧ (b.val == 0) = false ∧ decide (4096 < b.val) = false ∨ (b.kind == 3) = false := by
          by_cases h1 : b.kind = 3
          · refine .inl ⟨by simp [h1], ?_, ?_⟩
            · simp; intro e; exact hbad ⟨h1, .inl e⟩
            · simp; by_cases h2 : 4096 < b.val
              · exact absurd ⟨h1, .inr h2⟩ hbad
              · omega
          · exact .inr (by simp [h1])
        clear hs hs' hSt hta hb hbad hgood hR1
        rcases hk3 with ⟨k3, v0, v1⟩ | k3
        · go_wp2_with fail
          refine (HY.out _ hat.out.pr).mono ?_
          rintro e w1 ⟨rfl, hg, hp1⟩
          have HA1 := Lib.hid (hat.out.turn hg hp1)
          have HO1 := Lib.hid (show szVal w.heap.size acc w1 u3 from ownsRow_call hown.out hg hbp)
          clear hg hp1
          go_wp2_with fail
          refine (HT.out _ HA1.out.pr).mono ?_
          rintro e w2 ⟨rfl, hg2⟩
          have HA2 := Lib.hid (HA1.out.call hg2)
          have HO2 := Lib.hid (show szVal w.heap.size acc w2 u3 from World.ownsRow.kept HO1.out hg2 (Classical.em _))
          clear hg2
          unfold tkV
          go_wp2_with fail
          refine (HK.out _ (HA2.out.alloc _).pr).mono ?_
          cases R1 with
          | err p er =>
            rintro e w3 ⟨hg3, i3, d3, rfl, hdd, hp3⟩
            exact ⟨rfl, ((HA2.out.alloc _).turn hg3 hp3).errOut (by rw [HE.out]; rfl)⟩
          | ok t r =>
            rintro e w3 ⟨hg3, v3, i3, rfl, hv3, hp3, hd3⟩
            obtain ⟨rfl, hk, rfl⟩ := HGd.out _ _ rfl
            have hv3' : v3 = tkV t := hv3
            subst hv3'
            have HA3 := Lib.hid ((HA2.out.alloc _).turn hg3 hp3)
            have HO3 := Lib.hid (show szVal w.heap.size acc w3 u3 from ownsRow_call (HO2.out.alloc _) hg3 hbp)
            have HD3 := Lib.hid hd3
            have hi3 := hp3.lt
            have hi4 : i' + 2 ≤ i3 := by
              have e := congrArg List.length hd3
              simp at e; omega
            have hf := field3
            have hz3 := HA3.out.gr.size
            obtain ⟨i0, hi, hz0, hz1, hz2⟩ := info_parts info3
            clear hg3 hp3 hd3 hv3
            unfold tkV
            go_wp2_with (at_builtin; go_must (refine wpList_append_own _ rfl (.tmp 24) (.tmp 28) 45 rfl w.heap.size 3 i0 _ 1 8 Tryz.underlying45 hi hz0 hz1 hz2 rfl (by decide) _ acc.length (intsV acc) rfl (HO3.out.alloc _) ⟨w3.heap.size, 0, none⟩ 1 1 [.int .i64 t.val] rfl rfl ?_ ?_ ?_ ?_ ?_ ?_))
            · exact cells_at _ _ _ _
            · intro u hu; simp at hu; subst hu; rfl
            · unfold maxLen; omega
            · omega
            · simp; omega
            intro v' w4 hown' hgrow _
            have HA4 := Lib.hid (HA3.out.alloc (.cells #[.int .i64 t.val] 3) |>.app hgrow (fun k hk => (HO3.out.lt k hk).1))
            have HO4 := Lib.hid hown'
            clear hgrow hown' hi hz0 hz1 hz2
            go_wp2_with fail
            refine (want_any C _ i3 d HA4.out.pr [93] (by simp)).mono ?_
            rw [HD3.out]
            have HE2 := Lib.hid (HE.out.trans rfl)
            rw [PR.bind_ok] at HE2
            clear HE
            generalize hR2 : wantP [93] (C.toks.drop (i' + 2)) = R2 at HE2 ⊢
            cases R2 with
            | err p er =>
              rintro e w5 ⟨hg5, i5, d5, rfl, hdd, hp5⟩
              exact ⟨rfl, (HA4.out.turn hg5 hp5).errOut (by rw [HE2.out]; rfl)⟩
            | ok u r =>
              rintro e w5 ⟨hg5, v5, i5, rfl, hv5, hp5, hd5⟩
              have HA5 := Lib.hid (HA4.out.turn hg5 hp5)
              have HO5 := Lib.hid (show szVal w.heap.size (acc ++ [t.val]) w5 v' by
                have := ownsRow_call HO4.out hg5 hbp
                simpa [szVal, intsV] using this)
              have hi5 : i5 < C.toks.length := hp5.lt
              have hi6 : i' + 3 ≤ i5 := by
                have e1 : r = C.toks.drop (i' + 3) := by
                  unfold wantP at hR2
                  split at hR2
                  · rw [tl_at] at hR2; cases hR2; rfl
                  · cases hR2
                rw [e1] at hd5
                have e := congrArg List.length hd5
                simp at e; omega
              have HE3 := Lib.hid (show sizesP (C.toks.drop i) = pre (acc ++ [t.val]) (sizesP (C.toks.drop i5)) by
                rw [HE2.out, hd5]; exact pre_ok acc t.val (sizesP r))
              clear hg5 hp5 hd5 hv5 hR2
              go_wp2_with fail
              go_roundg (C.toks.length - i5)
              case measure => omega
              case rel => exact ⟨i5, acc ++ [t.val], rfl, hi5, by simp; omega, HA5.out, HO5.out, HE3.out⟩
        · have hbad : ∀ t r, R1 ≠ .ok t r := fun t r e => by
            have := (HGd.out t r e).2.1
            simp [this] at k3
          cases R1 with
          | ok t r => exact absurd rfl (hbad t r)
          | err p er =>
            go_wp2_with fail
            refine (HY.out _ hat.out.pr).mono ?_
            rintro e w1 ⟨rfl, hg, hp1⟩
            have HA1 := Lib.hid (hat.out.turn hg hp1)
            have HO1 := Lib.hid (show szVal w.heap.size acc w1 u3 from ownsRow_call hown.out hg hbp)
            clear hg hp1
            go_wp2_with fail
            refine (HT.out _ HA1.out.pr).mono ?_
            rintro e w2 ⟨rfl, hg2⟩
            have HA2 := Lib.hid (HA1.out.call hg2)
            have HO2 := Lib.hid (show szVal w.heap.size acc w2 u3 from World.ownsRow.kept HO1.out hg2 (Classical.em _))
            clear hg2
            unfold tkV
            go_wp2_with fail
            refine (HK.out _ (HA2.out.alloc _).pr).mono ?_
            rintro e w3 ⟨hg3, i3, d3, rfl, hdd, hp3⟩
            exact ⟨rfl, ((HA2.out.alloc _).turn hg3 hp3).errOut (by rw [HE.out]; rfl)⟩
end Go.Proofs.YtkbplcfehllbjaaGreatDoor
/- list, of types and of nodes. -/
namespace Go.Proofs.YtkbplcfehllbjaaGreatDoor
open Go.RowKit
/-- A slice that the call grows: l lies in it, none of l's blocks is its own row. -/
def GrowT (w : World) (B : Nat) (v : Value) (l : List Ty) (cells : List Value) : Prop :=
  w.ownsRow B 25 4 v l.length cells ∧ RepTl w (fun g => B ≤ g ∧ v.ownBlock ≠ some g) l cells
theorem GrowT.nil (w : World) (B : Nat) : GrowT w B (.slice none 0 0) [] [] := ⟨World.ownsRow_nil _ _ _ _, rfl⟩
theorem GrowT.call {w w' : World} {B r : Nat} {v : Value} {l : List Ty} {cells : List Value} (h : GrowT w B v l cells) (g : w.grownBy w' (some r)) (hr : r < B) : GrowT w' B v l cells :=
  ⟨ownsRow_call h.1 g hr, RepTl.mono (fun _ hs _ => hs) (fun k hs hk => g.block k hk (by have := hs.1; simp; omega)) l cells h.2⟩
theorem GrowT.call0 {w w' : World} {B : Nat} {v : Value} {l : List Ty} {cells : List Value} (h : GrowT w B v l cells) (g : w.grownBy w' none) : GrowT w' B v l cells :=
  ⟨ownsRow_call0 h.1 g, RepTl.mono (fun _ hs _ => hs) (fun k _ hk => g.block k hk (by simp)) l cells h.2⟩
theorem GrowT.lt {w : World} {B : Nat} {v : Value} {l : List Ty} {cells : List Value} (h : GrowT w B v l cells) : ∀ k, v.ownBlock = some k → B ≤ k ∧ k < w.heap.size := h.1.lt
theorem GrowT.push {w w' : World} {B H g cap : Nat} {v ofv : Value} {l : List Ty} {a : Ty} {cells : List Value} (h : GrowT w B v l cells) (hn : RepOf w (fun g => B ≤ g ∧ v.ownBlock ≠ some g) ofv a.of)
    (ho : w'.ownsRow B 25 4 (.slice (some ⟨g, 0, none⟩) (l.length + 1) cap) (l.length + 1) (cells ++ tyC a ofv)) (hg : w.grownBy w' v.ownBlock) (hat : v.ownBlock = some g ∨ g = H) (hH : w.heap.size = H) :
    GrowT w' B (.slice (some ⟨g, 0, none⟩) (l.length + 1) cap) (l ++ [a]) (cells ++ tyC a ofv) := by
  refine ⟨by simpa using ho, RepTl.mono ?_ (fun k hs hk => hg.block k hk (fun e => hs.2 e.symm)) _ _ (RepTl.snoc l a cells _ h.2 (RepT.of hn))⟩
  intro k hs hk
  refine ⟨hs.1, fun e => ?_⟩
  simp [Value.ownBlock] at e
  subst e
  rcases hat with h1 | h1
  · exact hs.2 h1
  · omega
theorem GrowT.done {w : World} {B : Nat} {v : Value} {l : List Ty} {cells : List Value} (h : GrowT w B v l cells) : RepOf w (fun g => B ≤ g) v l :=
  ⟨cells, by obtain ⟨h1, h2⟩ := h.1; exact ⟨h1, h2.imp id fun ⟨g, cap, cur, e, _, r⟩ => ⟨g, cap, cur, e, Nat.zero_le _, r⟩⟩, fun g hg => (h.1.lt g hg).1, RepTl.mono (fun _ hs _ => hs.1) (fun _ _ _ => rfl) l cells h.2⟩
theorem GrowT.fresh {w : World} {B A : Nat} {v ofv : Value} {m : List Ty} (h : RepOf w (fun g => A ≤ g) ofv m) (hB : B ≤ A) (hv : ∀ k, v.ownBlock = some k → k < A) : RepOf w (fun g => B ≤ g ∧ v.ownBlock ≠ some g) ofv m :=
  h.mono (fun g hs _ => ⟨Nat.le_trans hB hs, fun e => by have := hv g e; have : A ≤ g := hs; omega⟩) (fun _ _ _ => rfl)
def Shrinks {α : Type} (one : List T4 → PR α) : Prop := ∀ ts a r, ts ≠ [] → one ts = .ok a r → r.length < ts.length
def RunsT (f : Nat) (C : Ctx) (d : Nat) (one : List T4 → PR Ty) : Prop := ∀ (w : World) (i : Nat), Pr C w i d → Calls Tryz.prog f #[C.p] w (Out C w d (one (C.toks.drop i)) (fun t => tyVal t w))
def tysVal (l : List Ty) (w0 w' : World) (v : Value) : Prop := RepOf w' (fun g => w0.heap.size ≤ g) v l
theorem infoTy : (Tryz.prog.info? 25).map (fun i => (i.zero, i.size, i.bytes)) = some (some (.agg #[.int .i64 0, .int .i64 0, .string ⟨#[]⟩, .slice none 0 0]), 4, 56) := by kernel_rfl
theorem list_err {α : Type} {one : List T4 → PR α} {m : Nat} {acc : List α} {ts : List T4} {p : Nat} {e : Int} (h : one ts = .err p e) : loopP (listStep one) (m + 1) acc ts = .err p e := by
  simp [loopP, listStep, h]
theorem list_six {α : Type} {one : List T4 → PR α} {m : Nat} {acc : List α} {ts r : List T4} {a : α} (h : one ts = .ok a r) (h1 : isP [44] r = true) (h2 : acc.length + 1 = 6) : loopP (listStep one) (m + 1) acc ts = .err (hdT r).pos 5 := by
  simp [loopP, listStep, h, h1, h2, failP]
theorem list_more {α : Type} {one : List T4 → PR α} {m : Nat} {acc : List α} {ts r : List T4} {a : α} (h : one ts = .ok a r) (h1 : isP [44] r = true) (h2 : acc.length + 1 ≠ 6) : loopP (listStep one) (m + 1) acc ts = loopP (listStep one) m (acc ++ [a]) r.tail := by
  have : ¬ acc.length = 5 := by omega
  simp [loopP, listStep, h, h1, this]
theorem list_end {α : Type} {one : List T4 → PR α} {m : Nat} {acc : List α} {ts r : List T4} {a : α} (h : one ts = .ok a r) (h1 : isP [44] r = false) : loopP (listStep one) (m + 1) acc ts = (wantP [41] r).bind fun _ r' => .ok (acc ++ [a]) r' := by
  simp only [loopP, listStep, h, h1, PR.bind_ok]
  cases wantP [41] r <;> simp
theorem drop_ne {l : List T4} {i : Nat} (h : i < l.length) : l.drop i ≠ [] := by
  intro e; have := congrArg List.length e; simp at this; omega
set_option maxRecDepth 100000 in
set_option maxHeartbeats 8000000 in
theorem listT_any (C : Ctx) (one : List T4 → PR Ty) (hsh : Shrinks one) (w : World) (i d : Nat) (h1 : RunsT 92 C d one) (h : Pr C w i d) :
    Calls Tryz.prog 91 #[C.p, .func (.func 92) #[C.p] #[]] w (Out C w d (listP one (C.toks.drop i)) (fun l => tysVal l w)) := by
  have HP := Lib.hid h.at
  have hlen := h.len
  have hbp := lt_of_heap h.blk
  have hi0 := h.lt
  have H1 := Lib.hid h1
  have hW := want_any C w i d h [40] (by simp)
  unfold listP
  generalize hR0 : wantP [40] (C.toks.drop i) = R0 at hW ⊢
  have HW := Lib.hid hW
  clear h hW h1
  go_enter Tryz.func91, Tryz.ntmps91
  go_wp2_with fail
  refine HW.out.mono ?_
  cases R0 with
  | err p er =>
    rintro e w1 ⟨hg, i1, d1, rfl, hdd, hp⟩
    exact ⟨rfl, (HP.out.turn hg hp).errOut rfl⟩
  | ok u r =>
    rintro e w1 ⟨hg, v1, i1, rfl, hv, hp, hd⟩
    have hv' : v1 = .tuple #[] := hv
    subst hv'
    subst hd
    have HA1 := Lib.hid (HP.out.turn hg hp)
    have hi1 := hp.lt
    clear hg hp hv HW
    cases hs : isP [41] (C.toks.drop i1) with
    | true =>
      have HY := Lib.hid (fun w' (h' : Pr C w' i1 d) => skip_yes C w' i1 d h' [41] (by simp) hs)
      have HS := Lib.hid hs
      clear hs
      go_wp2_with fail
      refine (HY.out _ HA1.out.pr).mono ?_
      rintro e w2 ⟨rfl, hg2, hp2⟩
      have HA2 := Lib.hid (HA1.out.turn hg2 hp2)
      clear hg2 hp2
      go_wp2_with fail
      go_ret
      exact HA2.out.okOut (a := []) (rest := C.toks.drop (i1 + 1)) (by show (if _ then _ else _) = _; rw [if_pos HS.out, tl_at]) (RepOf.nil _ _) rfl
    | false =>
      have HN := Lib.hid (fun w' (h' : Pr C w' i1 d) => skip_no C w' i1 d h' [41] hs)
      have HS := Lib.hid hs
      clear hs
      go_wp2_with fail
      refine (HN.out _ HA1.out.pr).mono ?_
      rintro e w2 ⟨rfl, hg2⟩
      have HA2 := Lib.hid (HA1.out.call hg2)
      clear hg2
      go_wp2_with fail
      go_loopg [5] (C.toks.length - i1) (fun g v wr => ∃ (i' n : Nat) (acc : List Ty) (cells : List Value), g = C.toks.length - i' ∧ i' < C.toks.length ∧ acc.length < 6 ∧ C.toks.length - i' < n ∧ Hid (At C w wr i' d) ∧ Hid (GrowT wr w.heap.size v acc cells) ∧ Hid (loopP (listStep one) ((C.toks.drop i1).length + 1) [] (C.toks.drop i1) = loopP (listStep one) n acc (C.toks.drop i')))
      case atStart => exact ⟨i1, (C.toks.drop i1).length + 1, [], [], rfl, hi1, by simp, by simp, HA2.out, GrowT.nil _ _, rfl⟩
      case round =>
        obtain ⟨i', n, acc, cells, rfl, hi', hacc, hn, hat, hgr, hL⟩ := hrel
        obtain ⟨m, rfl⟩ : ∃ m, n = m + 1 := ⟨n - 1, by omega⟩
        have h1' := H1.out wr i' hat.out.pr
        have hshr := hsh (C.toks.drop i')
        generalize hR1 : one (C.toks.drop i') = R1 at h1' hshr
        have HC := Lib.hid h1'
        clear h1'
        go_wp2_with fail
        refine HC.out.mono ?_
        cases R1 with
        | err p er =>
          rintro e w3 ⟨hg3, i3, d3, rfl, hdd, hp3⟩
          exact ⟨rfl, (hat.out.turn hg3 hp3).errOut (by show (if _ then _ else _) = _; rw [if_neg (by rw [HS.out]; simp), hL.out, list_err hR1])⟩
        | ok a r =>
          rintro e w3 ⟨hg3, v3, i3, rfl, ⟨ofv, rfl, hof⟩, hp3, rfl⟩
          have hi3 := hp3.lt
          have hsm : i' < i3 := by have := hshr _ _ (drop_ne hi') rfl; simp at this; omega
          have hown := fun k hk => (hgr.out.lt k hk).2
          obtain ⟨sa, sn, sc, rfl⟩ := hof.isSlice
          have HOF := Lib.hid (GrowT.fresh hof (hat.out.gr.size) hown)
          have HG3 := Lib.hid (hgr.out.call hg3 hbp)
          have HA3 := Lib.hid (hat.out.turn hg3 hp3)
          have HR1 := Lib.hid hR1
          have hz3 := HA3.out.gr.size
          obtain ⟨i0, hi, hz0, hz1, hz2⟩ := info_parts infoTy
          clear hg3 hp3 hof hshr hown hR1 HC
          unfold tyV
          go_wp2_with (at_builtin; go_must (refine wpList_append_lies _ rfl (.tmp 11) (.tmp 14) 23 rfl w.heap.size 25 i0 _ 4 56 Tryz.underlying23 hi hz0 hz1 hz2 rfl (by decide) _ acc.length cells rfl (HG3.out.call0 (gr_alloc (grownBy_refl _ _) _)).1 ⟨w3.heap.size, 0, none⟩ 1 1 (tyC a (.slice sa sn sc)) rfl rfl ?_ ?_ (by omega) ?_ ?_ ?_ (w3.heap.size + 1) ?_ ?_))
          · exact cells_at _ _ _ _
          · intro u hu; simp [tyC] at hu; rcases hu with rfl | rfl | rfl | rfl <;> rfl
          · unfold maxLen; omega
          · omega
          · simp; omega
          · simp
          intro g cap w4 hown' hgrow hat' hlt'
          have HG4 := Lib.hid (GrowT.push (HG3.out.call0 (gr_alloc (grownBy_refl _ _) _)) (HOF.out.grow (gr_alloc (grownBy_refl _ _) _)) hown' hgrow hat' (by simp))
          have HA4 := Lib.hid ((HA3.out.alloc _).app hgrow (fun k hk => (HG3.out.lt k hk).1))
          clear hown' hgrow hat' hlt' hi hz0 hz1 hz2
          have hl1 : (acc ++ [a]).length = acc.length + 1 := by simp
          cases hs2 : isP [44] (C.toks.drop i3) with
          | false =>
            have HN2 := Lib.hid (fun w' (h' : Pr C w' i3 d) => is_is false C w' i3 d h' [44] hs2)
            have HE := Lib.hid (show (if isP [41] (C.toks.drop i1) = true then PR.ok [] (C.toks.drop i1).tail else loopP (listStep one) ((C.toks.drop i1).length + 1) [] (C.toks.drop i1)) = _ by rw [if_neg (by rw [HS.out]; simp), hL.out, list_end HR1.out hs2])
            clear hs2
            go_wp2_with fail
            refine (HN2.out _ HA4.out.pr).mono ?_
            rintro e w5 ⟨rfl, hg5⟩
            have HA5 := Lib.hid (HA4.out.call hg5)
            have HG5 := Lib.hid (HG4.out.call0 hg5)
            clear hg5
            go_wp2_with fail
            refine (want_any C _ i3 d HA5.out.pr [41] (by simp)).mono ?_
            generalize wantP [41] (C.toks.drop i3) = R2 at HE
            cases R2 with
            | err p er =>
              rintro e w6 ⟨hg6, i6, d6, rfl, hdd, hp6⟩
              exact ⟨rfl, (HA5.out.turn hg6 hp6).errOut HE.out⟩
            | ok u r6 =>
              rintro e w6 ⟨hg6, v6, i6, rfl, hv6, hp6, hd6⟩
              have HA6 := Lib.hid (HA5.out.turn hg6 hp6)
              have HG6 := Lib.hid (HG5.out.call hg6 hbp)
              have hv6' : v6 = .tuple #[] := hv6
              subst hv6'
              have HD6 := Lib.hid hd6
              clear hg6 hp6 hv6 hd6
              go_wp2_with fail
              go_ret
              exact HA6.out.okOut HE.out HG6.out.done HD6.out
          | true =>
            have HY2 := Lib.hid (fun w' (h' : Pr C w' i3 d) => is_is true C w' i3 d h' [44] hs2)
            have HS2 := Lib.hid hs2
            clear hs2
            go_wp2_with fail
            refine (HY2.out _ HA4.out.pr).mono ?_
            rintro e w5 ⟨rfl, hg5⟩
            have HA5 := Lib.hid (HA4.out.call hg5)
            have HG5 := Lib.hid (HG4.out.call0 hg5)
            clear hg5
            by_cases h6 : acc.length = 5
            · have l6 : ((acc.length : Int) + 1 == 6) = true := by simp; omega
              have HE := Lib.hid (show (if isP [41] (C.toks.drop i1) = true then PR.ok [] (C.toks.drop i1).tail else loopP (listStep one) ((C.toks.drop i1).length + 1) [] (C.toks.drop i1)) = _ by rw [if_neg (by rw [HS.out]; simp), hL.out, list_six HR1.out HS2.out (by omega)])
              clear h6
              go_wp2_with fail
              refine (fail_any 5 C _ i3 d HA5.out.pr).mono ?_
              rintro e w6 ⟨rfl, hg6⟩
              exact ⟨rfl, (HA5.out.call hg6).errOut HE.out⟩
            · have l6 : ((acc.length : Int) + 1 == 6) = false := by simp; omega
              have HE := Lib.hid (hL.out.trans (list_more HR1.out HS2.out (by omega)))
              have hwt : wantP [44] (C.toks.drop i3) = .ok () (C.toks.drop (i3 + 1)) := by unfold wantP; rw [if_pos HS2.out, tl_at]
              have HW2 := Lib.hid (want_any C _ i3 d HA5.out.pr [44] (by simp))
              rw [hwt] at HW2
              have hl2 := next_lt HA5.out.pr (by simp) HS2.out
              clear hwt
              go_wp2_with fail
              refine HW2.out.mono ?_
              rintro e w6 ⟨hg6, v6, i6, rfl, hv6, hp6, hd6⟩
              have HA6 := Lib.hid (HA5.out.turn hg6 hp6)
              have HG6 := Lib.hid (HG5.out.call hg6 hbp)
              have hv6' : v6 = .tuple #[] := hv6
              subst hv6'
              have hi6 := hp6.lt
              have hi7 : i6 = i3 + 1 := by
                have e := congrArg List.length hd6
                simp at e; omega
              subst hi7
              clear hg6 hp6 hv6 hd6 HW2
              go_wp2_with fail
              go_roundg (C.toks.length - (i3 + 1))
              case measure => omega
              case rel => exact ⟨i3 + 1, m, acc ++ [a], _, rfl, hi6, by simp; omega, by omega, HA6.out, HG6.out, by rw [← tl_at]; exact HE.out⟩
end Go.Proofs.YtkbplcfehllbjaaGreatDoor
