/- mem: Fill, Add. -/
import Derived.Test.YtblhnjoophhliaaM9
namespace Go.Proofs.Ytblhnjoophhliaa
open Go.RowKit
/-- Three boxed arguments. -/
structure P3 (w : World) (p q r : Val) (W : World) : Prop where
  b0 : VBox W w.heap.size p
  b1 : VBox W (w.heap.size + 1) q
  b2 : VBox W (w.heap.size + 2) r
  gr : w.grownBy W none
theorem P3.grown {w a b : World} {p q r : Val} (h : P3 w p q r a) (g : a.grownBy b none) : P3 w p q r b := ⟨h.b0.gr g (by simp), h.b1.gr g (by simp), h.b2.gr g (by simp), grownBy_trans h.gr g⟩
theorem P3.reads {w W : World} {n b f n' b' f' n'' b'' f'' : Int} (h : P3 w ⟨n, b, f⟩ ⟨n', b', f'⟩ ⟨n'', b'', f''⟩ W) : W.cell? ⟨w.heap.size, 0, none⟩ = some (.int .i64 n) ∧ W.cell? ⟨w.heap.size, 1, none⟩ = some (.int .i64 b) ∧ W.cell? ⟨w.heap.size, 2, none⟩ = some (.int .i64 f) ∧
    W.cell? ⟨w.heap.size + 1, 0, none⟩ = some (.int .i64 n') ∧ W.cell? ⟨w.heap.size + 1, 1, none⟩ = some (.int .i64 b') ∧ W.cell? ⟨w.heap.size + 1, 2, none⟩ = some (.int .i64 f') ∧
    W.cell? ⟨w.heap.size + 2, 0, none⟩ = some (.int .i64 n'') ∧ W.cell? ⟨w.heap.size + 2, 1, none⟩ = some (.int .i64 b'') ∧ W.cell? ⟨w.heap.size + 2, 2, none⟩ = some (.int .i64 f'') ∧ w.heap.size + 2 < W.heap.size :=
  ⟨h.b0.cells.1, h.b0.cells.2.1, h.b0.cells.2.2, h.b1.cells.1, h.b1.cells.2.1, h.b1.cells.2.2, h.b2.cells.1, h.b2.cells.2.1, h.b2.cells.2.2, lt_of_heap h.b2⟩
theorem P3.new (w : World) (n b f n' b' f' n'' b'' f'' : Int) : P3 w ⟨n, b, f⟩ ⟨n', b', f'⟩ ⟨n'', b'', f''⟩ (((w.alloc (.cells #[.int .i64 n, .int .i64 b, .int .i64 f] 29)).alloc (.cells #[.int .i64 n', .int .i64 b', .int .i64 f'] 29)).alloc (.cells #[.int .i64 n'', .int .i64 b'', .int .i64 f''] 29)) :=
  ⟨(P2.new w n b f n' b' f').b0.gr (r := none) (gr_alloc (grownBy_refl _ _) _) (by simp), (P2.new w n b f n' b' f').b1.gr (r := none) (gr_alloc (grownBy_refl _ _) _) (by simp),
    (show _ = _ by have := heap_alloc_new ((w.alloc (.cells #[.int .i64 n, .int .i64 b, .int .i64 f] 29)).alloc (.cells #[.int .i64 n', .int .i64 b', .int .i64 f'] 29)) (.cells #[.int .i64 n'', .int .i64 b'', .int .i64 f''] 29); simpa [valC] using this), gr_alloc (gr_alloc (gr_alloc (grownBy_refl _ _) _) _) _⟩
set_option maxRecDepth 100000 in
set_option maxHeartbeats 4000000 in
theorem fill_undef (m : Value) (p v n : Val) (w : World) (hn : numB v = false ∨ numB n = false ∨ lenB n.n = false) :
    Calls Try.prog 23 #[m, valV p, valV v, valV n] w fun e w' => e = .returned (.int .i64 9) ∧ w.grownBy w' none := by
  have HW := Lib.hid hn
  obtain ⟨pn, pb, pf⟩ := p
  obtain ⟨vn, vb, vf⟩ := v
  obtain ⟨nn, nb, nf⟩ := n
  unfold valV valC
  dsimp only at *
  have HV0 := Lib.hid (P3.new w pn pb pf vn vb vf nn nb nf)
  clear hn
  go_enter Try.func23, Try.ntmps23
  go_wp2_with fail
  refine (show Calls Try.prog 44 #[.agg #[.int .i64 vn, .int .i64 vb, .int .i64 vf]] _ _ from isNumber_any ⟨vn, vb, vf⟩ _).mono ?_
  rintro e w1 ⟨rfl, g1⟩
  have HV1 := Lib.hid (HV0.out.grown g1)
  clear g1
  obtain ⟨x0, x1, x2, x3, x4, x5, x6, x7, x8, hz⟩ := P3.reads HV1.out
  generalize numB ⟨vn, vb, vf⟩ = c1 at *
  cases c1
  · go_wp2_with fail
    go_ret
    exact ⟨rfl, HV1.out.gr⟩
  · go_wp2_with fail
    refine (show Calls Try.prog 44 #[.agg #[.int .i64 nn, .int .i64 nb, .int .i64 nf]] _ _ from isNumber_any ⟨nn, nb, nf⟩ _).mono ?_
    rintro e w2 ⟨rfl, g2⟩
    have HV2 := Lib.hid (HV1.out.grown g2)
    clear g2 x0 x1 x2 x3 x4 x5 x6 x7 x8 hz
    obtain ⟨x0, x1, x2, x3, x4, x5, x6, x7, x8, hz⟩ := P3.reads HV2.out
    generalize numB ⟨nn, nb, nf⟩ = c2 at *
    cases c2
    · go_wp2_with fail
      go_ret
      exact ⟨rfl, HV2.out.gr⟩
    · have HL := Lib.hid (show lenB nn = false from (HW.out.resolve_left (by simp)).resolve_left (by simp))
      go_wp2_with fail
      refine (isLength_any _ _).mono ?_
      rintro e w0 ⟨rfl, rfl⟩
      rw [HL.out]
      go_wp2_with fail
      go_ret
      exact ⟨rfl, HV2.out.gr⟩
set_option maxRecDepth 100000 in
set_option maxHeartbeats 4000000 in
theorem fill_no {B a : Nat} {row : Value} {L : List (Nat × Blk)} (p v n : Val) (c : Nat) (w : World) (h : MemAt w B a row L) (hv : numB v = true) (hn : numB n = true) (hl : lenB n.n = true) (hnc : n.n = c) (hc : cutI L p c = none) :
    Calls Try.prog 23 #[.pointer (some ⟨a, 0, none⟩), valV p, valV v, valV n] w fun e w' => e = .returned (.int .i64 9) ∧ w.grownBy w' none := by
  have HW := Lib.hid (And.intro hv (And.intro hn hl))
  have HC := Lib.hid (fun W (hW : MemAt W B a row L) => cut_no p c W hW hc)
  have HM := Lib.hid h
  obtain ⟨pn, pb, pf⟩ := p
  obtain ⟨vn, vb, vf⟩ := v
  obtain ⟨nn, nb, nf⟩ := n
  unfold valV valC at *
  dsimp only at *
  subst hnc
  have HV0 := Lib.hid (P3.new w pn pb pf vn vb vf c nb nf)
  clear hn hv hl h hc
  go_enter Try.func23, Try.ntmps23
  go_wp2_with fail
  refine (show Calls Try.prog 44 #[.agg #[.int .i64 vn, .int .i64 vb, .int .i64 vf]] _ _ from isNumber_any ⟨vn, vb, vf⟩ _).mono ?_
  rintro e w1 ⟨rfl, g1⟩
  have HV1 := Lib.hid (HV0.out.grown g1)
  clear g1
  obtain ⟨x0, x1, x2, x3, x4, x5, x6, x7, x8, hz⟩ := P3.reads HV1.out
  rw [HW.out.1]
  go_wp2_with fail
  refine (show Calls Try.prog 44 #[.agg #[.int .i64 c, .int .i64 nb, .int .i64 nf]] _ _ from isNumber_any ⟨c, nb, nf⟩ _).mono ?_
  rintro e w2 ⟨rfl, g2⟩
  have HV2 := Lib.hid (HV1.out.grown g2)
  clear g2 x0 x1 x2 x3 x4 x5 x6 x7 x8 hz HV1
  obtain ⟨x0, x1, x2, x3, x4, x5, x6, x7, x8, hz⟩ := P3.reads HV2.out
  rw [HW.out.2.1]
  go_wp2_with fail
  refine (isLength_any _ _).mono ?_
  rintro e w0 ⟨rfl, rfl⟩
  rw [HW.out.2.2]
  go_wp2_with fail
  refine (HC.out _ (HM.out.gr HV2.out.gr)).mono ?_
  rintro e w3 ⟨rfl, g3⟩
  have HV3 := Lib.hid (HV2.out.grown g3)
  clear g3
  go_wp2_with fail
  go_ret
  exact ⟨rfl, HV3.out.gr⟩
set_option maxRecDepth 100000 in
set_option maxHeartbeats 4000000 in
theorem fill_yes {B a : Nat} {row : Value} {L : List (Nat × Blk)} (p v n : Val) (c k : Nat) (w : World) (h : MemAt w B a row L) (hv : numB v = true) (hn : numB n = true) (hl : lenB n.n = true) (hnc : n.n = c) (hcl : c ≤ 4096) (hc : cutI L p c = some k) {x : Nat × Blk} (hx : L[k]? = some x) :
    Calls Try.prog 23 #[.pointer (some ⟨a, 0, none⟩), valV p, valV v, valV n] w fun e w' => e = .returned (.int .i64 0) ∧ BytesAt w' x.1 (splice x.2.bytes p.n.toNat (nums (v.n % 256) c)) ∧ w.grownBy w' (some x.1) := by
  have HW := Lib.hid (And.intro hv (And.intro hn hl))
  have HC := Lib.hid (fun W (hW : MemAt W B a row L) => cut_yes p c k W hW hc hcl hx)
  have HM := Lib.hid h
  have HX := Lib.hid (List.mem_of_getElem? hx)
  have hlen := (h.bytes x (List.mem_of_getElem? hx)).2.2.1
  obtain ⟨pn, pb, pf⟩ := p
  obtain ⟨vn, vb, vf⟩ := v
  obtain ⟨nn, nb, nf⟩ := n
  unfold valV valC at *
  dsimp only at *
  subst hnc
  have HV0 := Lib.hid (P3.new w pn pb pf vn vb vf c nb nf)
  clear hn hv hl h hc hx
  go_enter Try.func23, Try.ntmps23
  go_wp2_with fail
  refine (show Calls Try.prog 44 #[.agg #[.int .i64 vn, .int .i64 vb, .int .i64 vf]] _ _ from isNumber_any ⟨vn, vb, vf⟩ _).mono ?_
  rintro e w1 ⟨rfl, g1⟩
  have HV1 := Lib.hid (HV0.out.grown g1)
  clear g1
  obtain ⟨x0, x1, x2, x3, x4, x5, x6, x7, x8, hz⟩ := P3.reads HV1.out
  rw [HW.out.1]
  go_wp2_with fail
  refine (show Calls Try.prog 44 #[.agg #[.int .i64 c, .int .i64 nb, .int .i64 nf]] _ _ from isNumber_any ⟨c, nb, nf⟩ _).mono ?_
  rintro e w2 ⟨rfl, g2⟩
  have HV2 := Lib.hid (HV1.out.grown g2)
  clear g2 x0 x1 x2 x3 x4 x5 x6 x7 x8 hz HV1
  obtain ⟨x0, x1, x2, x3, x4, x5, x6, x7, x8, hz⟩ := P3.reads HV2.out
  rw [HW.out.2.1]
  go_wp2_with fail
  refine (isLength_any _ _).mono ?_
  rintro e w0 ⟨rfl, rfl⟩
  rw [HW.out.2.2]
  go_wp2_with fail
  refine (HC.out _ (HM.out.gr HV2.out.gr)).mono ?_
  rintro e w3 ⟨o, rfl, ho, hpo, g3⟩
  have HV3 := Lib.hid (HV2.out.grown g3)
  have HM3 := Lib.hid (HM.out.gr HV3.out.gr)
  clear g3 x0 x1 x2 x3 x4 x5 x6 x7 x8 hz HV2
  obtain ⟨x0, x1, x2, x3, x4, x5, x6, x7, x8, hz⟩ := P3.reads HV3.out
  go_wp2_with fail
  refine (setNumber_any x.1 o c c (vn % 256) x.2.bytes w3 (HM3.out.bytes x HX.out).1 ho hlen).mono ?_
  rintro e w4 ⟨rfl, hb, g4⟩
  have HB := Lib.hid hb
  have HG := Lib.hid (grownBy_trans (gr_to (r := some x.1) HV3.out.gr) g4)
  clear hb g4 x0 x1 x2 x3 x4 x5 x6 x7 x8 hz
  go_wp2_with fail
  go_ret
  refine ⟨rfl, ?_, HG.out⟩
  by_cases h0 : 0 < c
  · rw [hpo h0, Int.toNat_natCast]; exact HB.out
  · have e := splice_zero (o := pn.toNat) (o' := o) (M := x.2.bytes) (l := nums (vn % 256) c) (by rw [nums_len]; omega)
    rw [e]; exact HB.out
theorem fill_any {B a : Nat} {row : Value} {L : List (Nat × Blk)} (p v n : Val) (w : World) (h : MemAt w B a row L) :
    Calls Try.prog 23 #[.pointer (some ⟨a, 0, none⟩), valV p, valV v, valV n] w fun e w' => e = .returned (.int .i64 (fillP L p v n).2) ∧ MemAt w' B a row (fillP L p v n).1 ∧ Fr w w' a row L := by
  unfold fillP
  by_cases hn : numB v = false ∨ numB n = false ∨ lenB n.n = false
  · rw [if_pos hn]
    exact (fill_undef _ p v n w hn).mono fun e w' hh => ⟨hh.1, h.gr hh.2, Fr.of_gr hh.2⟩
  · rw [if_neg hn]
    have h1 : numB v = true := by rcases e : numB v; exact absurd (.inl e) hn; rfl
    have h2 : numB n = true := by rcases e : numB n; exact absurd (.inr (.inl e)) hn; rfl
    have h3 : lenB n.n = true := by rcases e : lenB n.n; exact absurd (.inr (.inr e)) hn; rfl
    obtain ⟨m, hm, hm4⟩ := lenB_true h3
    rcases hc : cutI L p n.n with _ | k
    · exact (fill_no p v n m w h h1 h2 h3 hm (by rw [← hm]; exact hc)).mono fun e w' hh => ⟨hh.1, h.gr hh.2, Fr.of_gr hh.2⟩
    · obtain ⟨x, hx, hpx⟩ := cut_in (n := m) (by rw [← hm]; exact hc)
      simp only [hx]
      refine (fill_yes p v n m k w h h1 h2 h3 hm hm4 (by rw [← hm]; exact hc) hx).mono fun e w' ⟨he, hB, hg⟩ => ⟨he, ?_, Fr.of_own hg (foot_mem hx)⟩
      rw [hm, Int.toNat_natCast]
      exact h.write hx (splice_len _ _ _ (by rw [nums_len]; exact hpx)) (splice_byts (h.bytes x (List.mem_of_getElem? hx)).2.2.2 (fun b hb => by
        have := List.eq_of_mem_replicate hb
        subst this
        show 0 ≤ v.n % 256 ∧ v.n % 256 < 256
        omega) _) hB hg
/-- What Add answers. -/
def addP (L : List (Nat × Blk)) (v : Val) (n : Int) : Val × Int :=
  if numB v = true then (⟨wrap64 (v.n + n), v.b, v.f⟩, 0) else
  match findI L.length v.b with
  | none => (val0, 9)
  | some k => match L[k]? with
    | none => (val0, 9)
    | some x => if ptrB v = true ∧ witB x.2.bytes.length v.n n = true then (⟨v.n + n, v.b, v.f⟩, 0) else (val0, 9)
set_option maxRecDepth 100000 in
set_option maxHeartbeats 4000000 in
theorem add_num (m : Value) (v : Val) (n : Int) (w : World) (hv : numB v = true) :
    Calls Try.prog 25 #[m, valV v, .int .i64 n] w fun e w' => e = .returned (.tuple #[valV ⟨wrap64 (v.n + n), v.b, v.f⟩, .int .i64 0]) ∧ w.grownBy w' none := by
  have HW := Lib.hid hv
  obtain ⟨vn, vb, vf⟩ := v
  unfold valV valC
  dsimp only
  have HV0 := Lib.hid (P2.new w vn vb vf 0 0 0)
  clear hv
  go_enter Try.func25, Try.ntmps25
  go_wp2_with fail
  refine (show Calls Try.prog 44 #[.agg #[.int .i64 vn, .int .i64 vb, .int .i64 vf]] _ _ from isNumber_any ⟨vn, vb, vf⟩ _).mono ?_
  rintro e w1 ⟨rfl, g1⟩
  have HV1 := Lib.hid (HV0.out.grown g1)
  clear g1
  obtain ⟨x0, x1, x2, z0, z1, z2, hz⟩ := P2.r0 HV1.out
  obtain ⟨y0, y1, y2, f0, f1, f2⟩ := P2.r1 HV1.out
  rw [HW.out]
  go_wp2_with fail
  exact bodyPost_ret (v := .tuple #[.agg #[.int .i64 (wrap64 (vn + n)), .int .i64 vb, .int .i64 vf], .int .i64 0]) (by simp [results, Try.results25, go_sem, y0, y1, y2]) rfl ⟨rfl, by have := HV1.out.gr; repeat (first | with_reducible exact grownBy_refl _ _ | with_reducible assumption | with_reducible refine World.grownBy.gr_drew ?_ | with_reducible refine World.grownBy.gr_set ?_ (by simp) _ | with_reducible refine gr_alloc ?_ _)⟩

set_option maxRecDepth 100000 in
set_option maxHeartbeats 4000000 in
theorem add_none {B a : Nat} {row : Value} {L : List (Nat × Blk)} (v : Val) (n : Int) (w : World) (h : MemAt w B a row L) (hv : numB v = false) (hf : findI L.length v.b = none) :
    Calls Try.prog 25 #[.pointer (some ⟨a, 0, none⟩), valV v, .int .i64 n] w fun e w' => e = .returned (.tuple #[valV val0, .int .i64 9]) ∧ w.grownBy w' none := by
  have HW := Lib.hid hv
  have HF := Lib.hid (fun W (hW : MemAt W B a row L) => find_no v.b W hW hf)
  have HM := Lib.hid h
  obtain ⟨vn, vb, vf⟩ := v
  unfold valV valC
  dsimp only at *
  have HV0 := Lib.hid (P2.new w vn vb vf 0 0 0)
  clear hv h hf
  go_enter Try.func25, Try.ntmps25
  go_wp2_with fail
  refine (show Calls Try.prog 44 #[.agg #[.int .i64 vn, .int .i64 vb, .int .i64 vf]] _ _ from isNumber_any ⟨vn, vb, vf⟩ _).mono ?_
  rintro e w1 ⟨rfl, g1⟩
  have HV1 := Lib.hid (HV0.out.grown g1)
  clear g1
  obtain ⟨x0, x1, x2, z0, z1, z2, hz⟩ := P2.r0 HV1.out
  obtain ⟨y0, y1, y2, f0, f1, f2⟩ := P2.r1 HV1.out
  rw [HW.out]
  go_wp2_with fail
  refine (HF.out _ (HM.out.gr HV1.out.gr)).mono ?_
  rintro e w2 ⟨rfl, rfl⟩
  go_wp2_with fail
  refine (show Calls Try.prog 46 #[.agg #[.int .i64 vn, .int .i64 vb, .int .i64 vf]] _ _ from isPointer_any ⟨vn, vb, vf⟩ _).mono ?_
  rintro e w3 ⟨rfl, g3⟩
  have HV3 := Lib.hid (HV1.out.grown g3)
  have HM3 := Lib.hid (HM.out.gr HV3.out.gr)
  clear g3 x0 x1 x2 z0 z1 z2 hz y0 y1 y2 f0 f1 f2 HV1
  obtain ⟨x0, x1, x2, z0, z1, z2, hz⟩ := P2.r0 HV3.out
  obtain ⟨y0, y1, y2, f0, f1, f2⟩ := P2.r1 HV3.out
  rcases ptrB ⟨vn, vb, vf⟩
  · go_wp2_with fail
    exact bodyPost_ret (v := .tuple #[.agg #[.int .i64 0, .int .i64 0, .int .i64 0], .int .i64 9]) (by simp [results, Try.results25, go_sem, y0, y1, y2]) rfl ⟨rfl, by have := HV3.out.gr; repeat (first | with_reducible exact grownBy_refl _ _ | with_reducible assumption | with_reducible refine World.grownBy.gr_drew ?_ | with_reducible refine World.grownBy.gr_set ?_ (by simp) _ | with_reducible refine gr_alloc ?_ _)⟩
  · go_wp2_with fail
    exact bodyPost_ret (v := .tuple #[.agg #[.int .i64 0, .int .i64 0, .int .i64 0], .int .i64 9]) (by simp [results, Try.results25, go_sem, y0, y1, y2]) rfl ⟨rfl, by have := HV3.out.gr; repeat (first | with_reducible exact grownBy_refl _ _ | with_reducible assumption | with_reducible refine World.grownBy.gr_drew ?_ | with_reducible refine World.grownBy.gr_set ?_ (by simp) _ | with_reducible refine gr_alloc ?_ _)⟩
set_option maxRecDepth 100000 in
set_option maxHeartbeats 4000000 in
theorem add_some {B a : Nat} {row : Value} {L : List (Nat × Blk)} (v : Val) (n : Int) (k : Nat) (w : World) (h : MemAt w B a row L) (hv : numB v = false) (hf : findI L.length v.b = some k) {x : Nat × Blk} (hx : L[k]? = some x) :
    Calls Try.prog 25 #[.pointer (some ⟨a, 0, none⟩), valV v, .int .i64 n] w fun e w' => e = .returned (.tuple #[valV (if ptrB v = true ∧ witB x.2.bytes.length v.n n = true then (⟨v.n + n, v.b, v.f⟩, (0 : Int)) else (val0, 9)).1, .int .i64 (if ptrB v = true ∧ witB x.2.bytes.length v.n n = true then ((⟨v.n + n, v.b, v.f⟩ : Val), (0 : Int)) else (val0, 9)).2]) ∧ w.grownBy w' none := by
  have HW := Lib.hid hv
  obtain ⟨r, c, rfl, hbr, hrw⟩ := h.row_some (by have := (findI_some hf).2; omega)
  have HF := Lib.hid (fun W (hW : MemAt W B a (.slice (some ⟨r, 0, none⟩) L.length c) L) => find_yes v.b k W hW hf)
  have HM := Lib.hid h
  have HX := Lib.hid hx
  have hl := (h.bytes x (List.mem_of_getElem? hx)).2.2.1
  obtain ⟨vn, vb, vf⟩ := v
  dsimp only at *
  by_cases hc : ptrB ⟨vn, vb, vf⟩ = true ∧ witB x.2.bytes.length vn n = true
  · rw [if_pos hc]
    have hb : -9223372036854775808 ≤ vn + n ∧ vn + n ≤ 9223372036854775807 := by
      have := of_decide_eq_true (show decide _ = true from hc.2)
      omega
    have HC := Lib.hid hc
    unfold valV valC
    dsimp only
    have HV0 := Lib.hid (P2.new w vn vb vf 0 0 0)
    have hb1 := hb.1
    have hb2 := hb.2
    clear hv h hf hx hc hb
    go_enter Try.func25, Try.ntmps25
    go_wp2_with fail
    refine (show Calls Try.prog 44 #[.agg #[.int .i64 vn, .int .i64 vb, .int .i64 vf]] _ _ from isNumber_any ⟨vn, vb, vf⟩ _).mono ?_
    rintro e w1 ⟨rfl, g1⟩
    have HV1 := Lib.hid (HV0.out.grown g1)
    clear g1
    obtain ⟨x0, x1, x2, z0, z1, z2, hz⟩ := P2.r0 HV1.out
    obtain ⟨y0, y1, y2, f0, f1, f2⟩ := P2.r1 HV1.out
    rw [HW.out]
    go_wp2_with fail
    refine (HF.out _ (HM.out.gr HV1.out.gr)).mono ?_
    rintro e w2 ⟨rfl, rfl⟩
    go_wp2_with fail
    refine (show Calls Try.prog 46 #[.agg #[.int .i64 vn, .int .i64 vb, .int .i64 vf]] _ _ from isPointer_any ⟨vn, vb, vf⟩ _).mono ?_
    rintro e w3 ⟨rfl, g3⟩
    have HV3 := Lib.hid (HV1.out.grown g3)
    have HM3 := Lib.hid (HM.out.gr HV3.out.gr)
    clear g3 x0 x1 x2 z0 z1 z2 hz y0 y1 y2 f0 f1 f2 HV1
    obtain ⟨x0, x1, x2, z0, z1, z2, hz⟩ := P2.r0 HV3.out
    obtain ⟨y0, y1, y2, f0, f1, f2⟩ := P2.r1 HV3.out
    obtain ⟨c0, c1, c2, zz0, zz1, zz2⟩ := HM3.out.cells HX.out
    rw [HC.out.1]
    clear zz0 zz1 zz2
    go_wp2_with fail
    refine (within_any _ _ _ c2 hl).mono ?_
    rintro e w4 ⟨rfl, rfl⟩
    rw [HC.out.2]
    go_wp2_with fail
    exact bodyPost_ret (v := .tuple #[.agg #[.int .i64 (vn + n), .int .i64 vb, .int .i64 vf], .int .i64 0]) (by simp [results, Try.results25, go_sem, y0, y1, y2]) rfl ⟨rfl, by have := HV3.out.gr; repeat (first | with_reducible exact grownBy_refl _ _ | with_reducible assumption | with_reducible refine World.grownBy.gr_drew ?_ | with_reducible refine World.grownBy.gr_set ?_ (by simp) _ | with_reducible refine gr_alloc ?_ _)⟩
  · rw [if_neg hc]
    have HC := Lib.hid hc
    unfold valV valC
    dsimp only
    have HV0 := Lib.hid (P2.new w vn vb vf 0 0 0)
    clear hv h hf hx hc
    go_enter Try.func25, Try.ntmps25
    go_wp2_with fail
    refine (show Calls Try.prog 44 #[.agg #[.int .i64 vn, .int .i64 vb, .int .i64 vf]] _ _ from isNumber_any ⟨vn, vb, vf⟩ _).mono ?_
    rintro e w1 ⟨rfl, g1⟩
    have HV1 := Lib.hid (HV0.out.grown g1)
    clear g1
    obtain ⟨x0, x1, x2, z0, z1, z2, hz⟩ := P2.r0 HV1.out
    obtain ⟨y0, y1, y2, f0, f1, f2⟩ := P2.r1 HV1.out
    rw [HW.out]
    go_wp2_with fail
    refine (HF.out _ (HM.out.gr HV1.out.gr)).mono ?_
    rintro e w2 ⟨rfl, rfl⟩
    go_wp2_with fail
    refine (show Calls Try.prog 46 #[.agg #[.int .i64 vn, .int .i64 vb, .int .i64 vf]] _ _ from isPointer_any ⟨vn, vb, vf⟩ _).mono ?_
    rintro e w3 ⟨rfl, g3⟩
    have HV3 := Lib.hid (HV1.out.grown g3)
    have HM3 := Lib.hid (HM.out.gr HV3.out.gr)
    clear g3 x0 x1 x2 z0 z1 z2 hz y0 y1 y2 f0 f1 f2 HV1
    obtain ⟨x0, x1, x2, z0, z1, z2, hz⟩ := P2.r0 HV3.out
    obtain ⟨y0, y1, y2, f0, f1, f2⟩ := P2.r1 HV3.out
    obtain ⟨c0, c1, c2, zz0, zz1, zz2⟩ := HM3.out.cells HX.out
    clear zz0 zz1 zz2
    generalize ptrB ⟨vn, vb, vf⟩ = q at *
    cases q
    · go_wp2_with fail
      exact bodyPost_ret (v := .tuple #[.agg #[.int .i64 0, .int .i64 0, .int .i64 0], .int .i64 9]) (by simp [results, Try.results25, go_sem, y0, y1, y2]) rfl ⟨rfl, by have := HV3.out.gr; repeat (first | with_reducible exact grownBy_refl _ _ | with_reducible assumption | with_reducible refine World.grownBy.gr_drew ?_ | with_reducible refine World.grownBy.gr_set ?_ (by simp) _ | with_reducible refine gr_alloc ?_ _)⟩
    · have HWI := Lib.hid (show witB x.2.bytes.length vn n = false from by rcases e : witB x.2.bytes.length vn n; rfl; exact absurd ⟨rfl, e⟩ HC.out)
      go_wp2_with fail
      refine (within_any _ _ _ c2 hl).mono ?_
      rintro e w4 ⟨rfl, rfl⟩
      rw [HWI.out]
      go_wp2_with fail
      exact bodyPost_ret (v := .tuple #[.agg #[.int .i64 0, .int .i64 0, .int .i64 0], .int .i64 9]) (by simp [results, Try.results25, go_sem, y0, y1, y2]) rfl ⟨rfl, by have := HV3.out.gr; repeat (first | with_reducible exact grownBy_refl _ _ | with_reducible assumption | with_reducible refine World.grownBy.gr_drew ?_ | with_reducible refine World.grownBy.gr_set ?_ (by simp) _ | with_reducible refine gr_alloc ?_ _)⟩
theorem add_any {B a : Nat} {row : Value} {L : List (Nat × Blk)} (v : Val) (n : Int) (w : World) (h : MemAt w B a row L) :
    Calls Try.prog 25 #[.pointer (some ⟨a, 0, none⟩), valV v, .int .i64 n] w fun e w' => e = .returned (.tuple #[valV (addP L v n).1, .int .i64 (addP L v n).2]) ∧ w.grownBy w' none := by
  unfold addP
  by_cases hv : numB v = true
  · rw [if_pos hv]
    exact add_num _ v n w hv
  · rw [if_neg hv]
    have hv : numB v = false := by simpa using hv
    rcases hf : findI L.length v.b with _ | k
    · exact add_none v n w h hv hf
    · obtain ⟨x, hx⟩ : ∃ x, L[k]? = some x := ⟨_, List.getElem?_eq_getElem (findI_some hf).2⟩
      simp only [hx]
      exact add_some v n k w h hv hf hx

end Go.Proofs.Ytblhnjoophhliaa
