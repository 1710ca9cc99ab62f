/- MemParts, walked. -/
import Derived.Test.YtblhnjoophhliaaM21
import Derived.Test.YtblhnjoophhliaaM14
import Derived.Deep.DeepCutAuto
namespace Go.Proofs.Ytblhnjoophhliaa
open Go.RowKit
/-- The state of MemParts: its memory, its pointer in a box, and some values loaded. -/
structure PaR (w : World) (m : Nat) (L : List (Nat × Blk)) (q : Nat) (v : Val) (W : World) : Prop where
  st : St w W m L
  vb : VBox W q v
theorem PaR.grown {w a b : World} {m q : Nat} {L : List (Nat × Blk)} {v : Val} (h : PaR w m L q v a) (g : a.grownBy b none) : PaR w m L q v b := ⟨h.st.gr' g, h.vb.gr g (by simp)⟩
theorem PaR.drew {w a : World} {m q : Nat} {L : List (Nat × Blk)} {v : Val} (h : PaR w m L q v a) : PaR w m L q v a.drew := ⟨h.st.gr' (grownBy_refl a none).gr_drew, h.vb⟩
theorem PaR.keep {w a b : World} {m q : Nat} {L L' : List (Nat × Blk)} {v : Val} (h : PaR w m L q v a) (s : St w b m L') (k : Keep a b L) : PaR w m L' q v b := ⟨s, h.vb.keep k⟩
theorem PaR.cells {w W : World} {m q : Nat} {L : List (Nat × Blk)} {n b f : Int} (h : PaR w m L q ⟨n, b, f⟩ W) : W.cell? ⟨q, 0, none⟩ = some (.int .i64 n) ∧ W.cell? ⟨q, 1, none⟩ = some (.int .i64 b) ∧ W.cell? ⟨q, 2, none⟩ = some (.int .i64 f) ∧ q < W.heap.size :=
  ⟨h.vb.cells.1, h.vb.cells.2.1, h.vb.cells.2.2, lt_of_heap h.vb⟩
structure PaQ (w : World) (m : Nat) (L : List (Nat × Blk)) (q : Nat) (v : Val) (q' : Nat) (v' : Val) (W : World) : Prop where
  pr : PaR w m L q v W
  vb : VBox W q' v'
theorem PaQ.grown {w a b : World} {m q q' : Nat} {L : List (Nat × Blk)} {v v' : Val} (h : PaQ w m L q v q' v' a) (g : a.grownBy b none) : PaQ w m L q v q' v' b := ⟨h.pr.grown g, h.vb.gr g (by simp)⟩
theorem PaQ.drew {w a : World} {m q q' : Nat} {L : List (Nat × Blk)} {v v' : Val} (h : PaQ w m L q v q' v' a) : PaQ w m L q v q' v' a.drew := ⟨h.pr.drew, h.vb⟩
theorem PaQ.keep {w a b : World} {m q q' : Nat} {L L' : List (Nat × Blk)} {v v' : Val} (h : PaQ w m L q v q' v' a) (s : St w b m L') (k : Keep a b L) : PaQ w m L' q v q' v' b := ⟨h.pr.keep s k, h.vb.keep k⟩
theorem PaQ.cells {w W : World} {m q q' : Nat} {L : List (Nat × Blk)} {v : Val} {n b f : Int} (h : PaQ w m L q v q' ⟨n, b, f⟩ W) : W.cell? ⟨q', 0, none⟩ = some (.int .i64 n) ∧ W.cell? ⟨q', 1, none⟩ = some (.int .i64 b) ∧ W.cell? ⟨q', 2, none⟩ = some (.int .i64 f) ∧ q' < W.heap.size :=
  ⟨h.vb.cells.1, h.vb.cells.2.1, h.vb.cells.2.2, lt_of_heap h.vb⟩
/-- A memory, and some values in boxes. -/
structure Bx (w : World) (m : Nat) (L : List (Nat × Blk)) (bs : List (Nat × Val)) (W : World) : Prop where
  st : St w W m L
  vb : ∀ x ∈ bs, VBox W x.1 x.2
theorem Bx.grown {w a b : World} {m : Nat} {L : List (Nat × Blk)} {bs : List (Nat × Val)} (h : Bx w m L bs a) (g : a.grownBy b none) : Bx w m L bs b := ⟨h.st.gr' g, fun x hx => (h.vb x hx).gr g (by simp)⟩
theorem Bx.drew {w a : World} {m : Nat} {L : List (Nat × Blk)} {bs : List (Nat × Val)} (h : Bx w m L bs a) : Bx w m L bs a.drew := ⟨h.st.gr' (grownBy_refl a none).gr_drew, h.vb⟩
theorem Bx.keep {w a b : World} {m : Nat} {L L' : List (Nat × Blk)} {bs : List (Nat × Val)} (h : Bx w m L bs a) (s : St w b m L') (k : Keep a b L) : Bx w m L' bs b := ⟨s, fun x hx => (h.vb x hx).keep k⟩
theorem Bx.add {w W : World} {m : Nat} {L : List (Nat × Blk)} {bs : List (Nat × Val)} (h : Bx w m L bs W) (n b f : Int) : Bx w m L ((W.heap.size, ⟨n, b, f⟩) :: bs) (W.alloc (.cells #[.int .i64 n, .int .i64 b, .int .i64 f] 29)) :=
  ⟨h.st.gr' (gr_alloc (grownBy_refl W none) _), fun x hx => by
    rcases List.mem_cons.1 hx with rfl | hx
    · exact VBox.new W ⟨n, b, f⟩
    · exact (h.vb x hx).gr (gr_alloc (grownBy_refl W none) _) (by simp)⟩
theorem Bx.cells {w W : World} {m q : Nat} {L : List (Nat × Blk)} {bs : List (Nat × Val)} {n b f : Int} (h : Bx w m L bs W) (hx : (q, (⟨n, b, f⟩ : Val)) ∈ bs) : W.cell? ⟨q, 0, none⟩ = some (.int .i64 n) ∧ W.cell? ⟨q, 1, none⟩ = some (.int .i64 b) ∧ W.cell? ⟨q, 2, none⟩ = some (.int .i64 f) ∧ q < W.heap.size :=
  have v := h.vb _ hx
  ⟨v.cells.1, v.cells.2.1, v.cells.2.2, lt_of_heap v⟩
set_option maxRecDepth 100000 in
set_option maxHeartbeats 16000000 in
theorem parts_walk (pn pb pf : Int) (t s : Nat) (ht : t < 256) (hs : s < 256) (w : World) :
    Calls Try.prog 5 #[valV ⟨pn, pb, pf⟩, .int .u8 t, .int .u8 s] w fun e w' => e = .returned (.bool true) ∧ w.grownBy w' none := by
  unfold valV valC
  dsimp only
  have HV0 := Lib.hid (VB.new3 w pn pb pf)
  go_enter Try.func5, Try.ntmps5
  go_wp2_with fail
  refine (shown_any _).mono ?_
  rintro e w1 ⟨rfl, hg⟩
  have HV1 := Lib.hid (HV0.out.grown hg)
  clear hg HV0
  go_wp2_with fail
  refine (New_any w1).mono ?_
  rintro e w2 ⟨rfl, rfl⟩
  have HS2 := Lib.hid (St.new w w1 HV1.out.gr)
  have HV2 := Lib.hid (HV1.out.grown (gr_alloc (grownBy_refl w1 none) (.cells #[.slice none 0 0] 73)))
  go_wp2_with fail
  refine (alloc_st 0 32 true HS2.out).mono ?_
  rintro e w3 ⟨rfl, hs', hkk⟩
  rw [pa0] at hs' ⊢
  dsimp only at hs' ⊢
  have HS3 := Lib.hid hs'
  have HB3 := Lib.hid (HV2.out.box.keep hkk)
  clear hs' hkk HS2 HV1 HV2
  generalize (w1.alloc (.cells #[.slice none 0 0] 73)).heap.size = g at *
  generalize w1.heap.size = m at *
  obtain ⟨x0, x1, x2⟩ := HB3.out.cells
  replace x0 : w3.cell? ⟨w.heap.size, 0, none⟩ = some (.int .i64 pn) := x0
  replace x1 : w3.cell? ⟨w.heap.size, 1, none⟩ = some (.int .i64 pb) := x1
  replace x2 : w3.cell? ⟨w.heap.size, 2, none⟩ = some (.int .i64 pf) := x2
  go_upto_region 5 with fail
  obtain ⟨b, hb⟩ : ∃ b : Int, 1 + (t : Int) % 5 = b := ⟨_, rfl⟩
  have hb0 : 0 < b := by omega
  rw [hb]
  have HZ3 := Lib.hid (show PaR w m [(g, paB)] w3.heap.size ⟨pn, b, 0⟩ (w3.alloc (.cells #[.int .i64 pn, .int .i64 b, .int .i64 0] 29)) from ⟨HS3.out.gr' (gr_alloc (grownBy_refl w3 none) _), VBox.new w3 ⟨pn, b, 0⟩⟩)
  clear hb x0 x1 x2 HS3 HB3
  go_cut [48] (fun s48 wx => s48 = .bool false ∧ PaR w m [(g, bk (splice paB.bytes 3 (ptrL ⟨pn, b, 0⟩ 8)))] w3.heap.size ⟨pn, b, 0⟩ wx)
  case first =>
    have HST := Lib.hid (fun (W : World) (hW : PaR w m [(g, paB)] w3.heap.size ⟨pn, b, 0⟩ W) => (show Calls Try.prog 19 #[.pointer (some ⟨m, 0, none⟩), .agg #[.int .i64 3, .int .i64 1, .int .i64 0], .int .i64 8, .agg #[.int .i64 pn, .int .i64 b, .int .i64 0]] W (fun e w' => e = .returned (.int .i64 0) ∧ St w w' m [(g, bk (splice paB.bytes 3 (ptrL ⟨pn, b, 0⟩ 8)))] ∧ Keep W w' [(g, paB)]) from by have h := store_st ⟨3, 1, 0⟩ ⟨pn, b, 0⟩ 8 hW.st; rw [store_ptr (g := g) hb0 rfl] at h; exact h))
    have HY := PaR.drew HZ3.out
    obtain ⟨x0, x1, x2, hz⟩ := HY.cells
    go_region_with (first
      | (go_at_call 31; refine (at_any _ _).mono ?_; rintro e w' ⟨rfl, hg⟩; have hbx := PaR.grown (by assumption) hg; clear hg; obtain ⟨x0, x1, x2, hz⟩ := hbx.cells)
      | (go_at_call 19; refine (HST.out _ (by assumption)).mono ?_; rintro e w'' ⟨rfl, hs', hk⟩; have hby := PaR.keep hbx hs' hk; clear hs' hk))
    all_goals
      go_wp2_with fail
      go_meet
      exact ⟨rfl, by assumption⟩
  case rest =>
  obtain ⟨rfl, X4⟩ := hcut
  have HZ4 := Lib.hid X4
  clear X4 HZ3
  generalize w3.heap.size = q at *
  go_wp2_with fail
  go_loopw [12] (fun i wr => ∃ (k : Nat) (M : List Byt), k ≤ 8 ∧ i = .int .i64 k ∧ PaM ⟨pn, b, 0⟩ t k M ∧ PaR w m [(g, bk M)] q ⟨pn, b, 0⟩ wr) (fun i _ => 8 - (intOf i).toNat)
  case atStart => exact ⟨0, _, by omega, rfl, PaM.first, HZ4.out⟩
  case round =>
    obtain ⟨k, M, hk, rfl, hM, hX⟩ := hrel
    have HPM := Lib.hid hM
    have HX := Lib.hid hX
    clear hM hX
    by_cases hlt : k < 8
    · obtain ⟨i, hi⟩ : ∃ i : Nat, i = (k + t) % 8 := ⟨_, rfl⟩
      have hi8 : i < 8 := by omega
      have HI := Lib.hid (show ((k : Int) + (t : Int)) % 8 = (i : Int) by omega)
      have HII := Lib.hid hi
      clear hi
      have hlen := HPM.out.len
      go_wp2_with fail
      rw [HI.out, show (3 : Int) + (i : Int) = ((3 + i : Nat) : Int) by omega]
      refine (at_any _ _).mono ?_
      rintro e wa ⟨rfl, hg⟩
      have HXa := Lib.hid (HX.out.grown hg)
      clear hg HX
      go_wp2_with fail
      refine (show Calls Try.prog 17 #[.pointer (some ⟨m, 0, none⟩), .agg #[.int .i64 ((3 + i : Nat) : Int), .int .i64 1, .int .i64 0], .int .i64 1] wa _ from load_st ⟨((3 + i : Nat) : Int), 1, 0⟩ 1 HXa.out.st).mono ?_
      rintro e wb ⟨rfl, hs', hg⟩
      rw [load_prt (HPM.out.src i hi8)]
      have HXb := Lib.hid ((HXa.out.grown hg).grown (gr_alloc (grownBy_refl wb none) (.cells #[.int .i64 pn, .int .i64 b, .int .i64 ((i : Int) + 1)] 29)))
      have HYb := Lib.hid (show PaQ w m [(g, bk M)] q ⟨pn, b, 0⟩ wb.heap.size ⟨pn, b, (i : Int) + 1⟩ (wb.alloc (.cells #[.int .i64 pn, .int .i64 b, .int .i64 ((i : Int) + 1)] 29)) from ⟨HXb.out, VBox.new wb ⟨pn, b, (i : Int) + 1⟩⟩)
      clear hs' hg HXa HXb
      unfold valV valC
      dsimp only
      go_upto_region 12 with fail
      generalize wb.heap.size = q2 at *
      go_cut [83] (fun s83 wx => s83 = .bool false ∧ PaR w m [(g, bk (M.set (20 + i) (prt ⟨pn, b, 0⟩ i)))] q ⟨pn, b, 0⟩ wx)
      case first =>
        have HST := Lib.hid (fun (W : World) (hW : PaQ w m [(g, bk M)] q ⟨pn, b, 0⟩ q2 ⟨pn, b, (i : Int) + 1⟩ W) => (show Calls Try.prog 19 #[.pointer (some ⟨m, 0, none⟩), .agg #[.int .i64 (20 + (i : Int)), .int .i64 1, .int .i64 0], .int .i64 1, .agg #[.int .i64 pn, .int .i64 b, .int .i64 ((i : Int) + 1)]] W (fun e w' => e = .returned (.int .i64 0) ∧ St w w' m [(g, bk (M.set (20 + i) (prt ⟨pn, b, 0⟩ i)))] ∧ Keep W w' [(g, bk M)]) from by
          have h := store_st ⟨((20 + i : Nat) : Int), 1, 0⟩ ⟨pn, b, (i : Int) + 1⟩ 1 hW.pr.st
          rw [store_prt (v := ⟨pn, b, 0⟩) (by omega) hi8] at h
          rw [show (20 : Int) + (i : Int) = ((20 + i : Nat) : Int) by omega]
          exact h))
        have HY := PaQ.drew HYb.out
        obtain ⟨x0, x1, x2, hz⟩ := HY.cells
        have hsum : IntKind.i64.wrap (20 + (i : Int)) = 20 + (i : Int) := IntWalk.i64_in _ (by omega)
        have hsu2 : IntKind.i64.wrap ((i : Int) + 1) = (i : Int) + 1 := IntWalk.i64_in _ (by omega)
        go_region_with (first
          | (go_at_call 31; refine (at_any _ _).mono ?_; rintro e w' ⟨rfl, hg⟩; have hbx := PaQ.grown (by assumption) hg; clear hg; obtain ⟨x0, x1, x2, hz⟩ := hbx.cells)
          | (go_at_call 19; refine (HST.out _ (by assumption)).mono ?_; rintro e w'' ⟨rfl, hs', hk⟩; have hby := (PaQ.keep hbx hs' hk).pr; clear hs' hk))
        all_goals
          clear hsum hsu2
          go_wp2_with fail
          go_meet
          exact ⟨rfl, by assumption⟩
      case rest =>
      obtain ⟨rfl, X5⟩ := hcut
      have HX5 := Lib.hid X5
      clear X5
      go_wp2_with fail
      go_roundw
      case rel => exact ⟨k + 1, _, by omega, by go_num, by rw [HII.out] at *; exact HPM.out.next, by rw [← HII.out]; exact HX5.out⟩
      case measure => simp [intOf]; omega
    · obtain rfl : k = 8 := by omega
      clear hlt
      have HPT := Lib.hid HPM.out.last
      have hML := HPM.out.len
      obtain ⟨a, ha⟩ : ∃ a : Nat, a = s % 8 := ⟨_, rfl⟩
      obtain ⟨c, hc⟩ : ∃ c : Nat, c = s / 8 % 8 := ⟨_, rfl⟩
      have ha8 : a < 8 := by omega
      have hc8 : c < 8 := by omega
      have HA := Lib.hid (show (s : Int) % 8 = (a : Int) by omega)
      have HC := Lib.hid (show (s : Int) / 8 % 8 = (c : Int) by omega)
      have HB := Lib.hid (show Bx w m [(g, bk M)] [(q, ⟨pn, b, 0⟩)] wr from ⟨HX.out.st, fun x hx => by rw [List.mem_singleton.1 hx]; exact HX.out.vb⟩)
      clear ha hc HX HPM hk HZ4
      go_wp2_with fail
      refine (at_any _ _).mono ?_
      rintro e wa ⟨rfl, hg⟩
      have HBa := Lib.hid (HB.out.grown hg)
      clear hg HB
      go_wp2_with fail
      refine (show Calls Try.prog 17 #[.pointer (some ⟨m, 0, none⟩), .agg #[.int .i64 20, .int .i64 1, .int .i64 0], .int .i64 8] wa _ from load_st ⟨((20 : Nat) : Int), 1, 0⟩ 8 HBa.out.st).mono ?_
      rintro e wb ⟨rfl, hs', hg⟩
      rw [load_ptr (v := ⟨pn, b, 0⟩) hb0 rfl HPT.out]
      have HBb := Lib.hid ((HBa.out.grown hg).add pn b 0)
      clear hs' hg HBa
      unfold valV valC
      dsimp only
      go_wp2_with fail
      rw [HA.out, HC.out, show (20 : Int) + (a : Int) = ((20 + a : Nat) : Int) by omega]
      refine (at_any _ _).mono ?_
      rintro e wd ⟨rfl, hg⟩
      have HBd := Lib.hid (HBb.out.grown hg)
      clear hg HBb
      go_wp2_with fail
      refine (show Calls Try.prog 17 #[.pointer (some ⟨m, 0, none⟩), .agg #[.int .i64 ((20 + a : Nat) : Int), .int .i64 1, .int .i64 0], .int .i64 1] wd _ from load_st ⟨((20 + a : Nat) : Int), 1, 0⟩ 1 HBd.out.st).mono ?_
      rintro e we ⟨rfl, hs', hg⟩
      rw [load_prt (HPT.out a ha8)]
      have HBe := Lib.hid ((HBd.out.grown hg).add pn b ((a : Int) + 1))
      clear hs' hg HBd
      unfold valV valC
      dsimp only
      go_wp2_with fail
      rw [show (20 : Int) + (c : Int) = ((20 + c : Nat) : Int) by omega]
      refine (at_any _ _).mono ?_
      rintro e wf ⟨rfl, hg⟩
      have HBf := Lib.hid (HBe.out.grown hg)
      clear hg HBe
      go_wp2_with fail
      refine (show Calls Try.prog 17 #[.pointer (some ⟨m, 0, none⟩), .agg #[.int .i64 ((20 + c : Nat) : Int), .int .i64 1, .int .i64 0], .int .i64 1] wf _ from load_st ⟨((20 + c : Nat) : Int), 1, 0⟩ 1 HBf.out.st).mono ?_
      rintro e wg ⟨rfl, hs', hg⟩
      rw [load_prt (HPT.out c hc8)]
      have HBg := Lib.hid ((HBf.out.grown hg).add pn b ((c : Int) + 1))
      clear hs' hg HBf
      unfold valV valC
      dsimp only
      go_upto_region 19 with fail
      go_cut [118] (fun s118 wx => s118 = .int .i64 0 ∧ Bx w m [(g, bk (M.set (20 + a) (prt ⟨pn, b, 0⟩ c)))] [(wg.heap.size, ⟨pn, b, (c : Int) + 1⟩), (we.heap.size, ⟨pn, b, (a : Int) + 1⟩), (wb.heap.size, ⟨pn, b, 0⟩), (q, ⟨pn, b, 0⟩)] wx)
      case first =>
        have HST := Lib.hid (fun (W : World) (hW : Bx w m [(g, bk M)] [(wg.heap.size, ⟨pn, b, (c : Int) + 1⟩), (we.heap.size, ⟨pn, b, (a : Int) + 1⟩), (wb.heap.size, ⟨pn, b, 0⟩), (q, ⟨pn, b, 0⟩)] W) => (show Calls Try.prog 19 #[.pointer (some ⟨m, 0, none⟩), .agg #[.int .i64 (20 + (a : Int)), .int .i64 1, .int .i64 0], .int .i64 1, .agg #[.int .i64 pn, .int .i64 b, .int .i64 ((c : Int) + 1)]] W (fun e w' => e = .returned (.int .i64 0) ∧ St w w' m [(g, bk (M.set (20 + a) (prt ⟨pn, b, 0⟩ c)))] ∧ Keep W w' [(g, bk M)]) from by
          have h := store_st ⟨((20 + a : Nat) : Int), 1, 0⟩ ⟨pn, b, (c : Int) + 1⟩ 1 hW.st
          rw [store_prt (v := ⟨pn, b, 0⟩) (by omega) hc8] at h
          rw [show (20 : Int) + (a : Int) = ((20 + a : Nat) : Int) by omega]
          exact h))
        have HY := Bx.drew HBg.out
        obtain ⟨x0, x1, x2, hz⟩ := HY.cells (q := wg.heap.size) (n := pn) (b := b) (f := (c : Int) + 1) (by simp)
        have hsum : IntKind.i64.wrap (20 + (a : Int)) = 20 + (a : Int) := IntWalk.i64_in _ (by omega)
        go_region_with (first
          | (go_at_call 31; refine (at_any _ _).mono ?_; rintro e w' ⟨rfl, hg⟩; have hbx := Bx.grown (by assumption) hg; clear hg; obtain ⟨x0, x1, x2, hz⟩ := hbx.cells (q := wg.heap.size) (n := pn) (b := b) (f := (c : Int) + 1) (by simp))
          | (go_at_call 19; refine (HST.out _ (by assumption)).mono ?_; rintro e w'' ⟨rfl, hs', hk⟩; have hby := Bx.keep hbx hs' hk; clear hs' hk))
        all_goals
          clear hsum
          go_wp2_with fail
          go_meet
          exact ⟨rfl, by assumption⟩
      case rest =>
      obtain ⟨rfl, X5⟩ := hcut
      have HBh := Lib.hid X5
      clear X5 HBg
      go_upto_region 20 with fail
      go_cut [124] (fun s124 wx => s124 = .int .i64 0 ∧ Bx w m [(g, bk (swp M ⟨pn, b, 0⟩ a c))] [(wg.heap.size, ⟨pn, b, (c : Int) + 1⟩), (we.heap.size, ⟨pn, b, (a : Int) + 1⟩), (wb.heap.size, ⟨pn, b, 0⟩), (q, ⟨pn, b, 0⟩)] wx)
      case first =>
        have HST := Lib.hid (fun (W : World) (hW : Bx w m [(g, bk (M.set (20 + a) (prt ⟨pn, b, 0⟩ c)))] [(wg.heap.size, ⟨pn, b, (c : Int) + 1⟩), (we.heap.size, ⟨pn, b, (a : Int) + 1⟩), (wb.heap.size, ⟨pn, b, 0⟩), (q, ⟨pn, b, 0⟩)] W) => (show Calls Try.prog 19 #[.pointer (some ⟨m, 0, none⟩), .agg #[.int .i64 (20 + (c : Int)), .int .i64 1, .int .i64 0], .int .i64 1, .agg #[.int .i64 pn, .int .i64 b, .int .i64 ((a : Int) + 1)]] W (fun e w' => e = .returned (.int .i64 0) ∧ St w w' m [(g, bk (swp M ⟨pn, b, 0⟩ a c))] ∧ Keep W w' [(g, bk (M.set (20 + a) (prt ⟨pn, b, 0⟩ c)))]) from by
          have h := store_st ⟨((20 + c : Nat) : Int), 1, 0⟩ ⟨pn, b, (a : Int) + 1⟩ 1 hW.st
          rw [store_prt (v := ⟨pn, b, 0⟩) (by rw [List.length_set]; omega) ha8] at h
          rw [show (20 : Int) + (c : Int) = ((20 + c : Nat) : Int) by omega]
          exact h))
        have HY := Bx.drew HBh.out
        obtain ⟨x0, x1, x2, hz⟩ := HY.cells (q := we.heap.size) (n := pn) (b := b) (f := (a : Int) + 1) (by simp)
        have hsum : IntKind.i64.wrap (20 + (c : Int)) = 20 + (c : Int) := IntWalk.i64_in _ (by omega)
        go_region_with (first
          | (go_at_call 31; refine (at_any _ _).mono ?_; rintro e w' ⟨rfl, hg⟩; have hbx := Bx.grown (by assumption) hg; clear hg; obtain ⟨x0, x1, x2, hz⟩ := hbx.cells (q := we.heap.size) (n := pn) (b := b) (f := (a : Int) + 1) (by simp))
          | (go_at_call 19; refine (HST.out _ (by assumption)).mono ?_; rintro e w'' ⟨rfl, hs', hk⟩; have hby := Bx.keep hbx hs' hk; clear hs' hk))
        all_goals
          clear hsum
          go_wp2_with fail
          go_meet
          exact ⟨rfl, by assumption⟩
      case rest =>
      obtain ⟨rfl, X6⟩ := hcut
      have HBi := Lib.hid X6
      clear X6 HBh
      go_wp2_with fail
      refine (at_any _ _).mono ?_
      rintro e wj ⟨rfl, hg⟩
      have HBj := Lib.hid (HBi.out.grown hg)
      clear hg HBi
      go_wp2_with fail
      refine (show Calls Try.prog 17 #[.pointer (some ⟨m, 0, none⟩), .agg #[.int .i64 20, .int .i64 1, .int .i64 0], .int .i64 8] wj _ from load_st ⟨((20 : Nat) : Int), 1, 0⟩ 8 HBj.out.st).mono ?_
      rintro e wk ⟨rfl, hs', hg⟩
      have hcmp := fun W => eqValB W pn b 0 pn b 0
      rw [decide_eq_true rfl] at hcmp
      by_cases hac : a = c
      · subst hac
        rw [load_ptr (v := ⟨pn, b, 0⟩) hb0 rfl (swp_same HPT.out)]
        have HBk := Lib.hid ((HBj.out.grown hg).add pn b 0)
        clear hs' hg HBj
        unfold valV valC
        dsimp only
        obtain ⟨x0, x1, x2, hz⟩ := HBk.out.cells (q := q) (n := pn) (b := b) (f := 0) (by simp)
        obtain ⟨y0, y1, y2, hz1⟩ := HBk.out.cells (q := wb.heap.size) (n := pn) (b := b) (f := 0) (by simp)
        obtain ⟨u0, u1, u2, hz2⟩ := HBk.out.cells (q := wk.heap.size) (n := pn) (b := b) (f := 0) (by simp)
        go_wp2_with fail
        go_ret
        exact ⟨rfl, HBk.out.st.gr⟩
      · have hsw := swp_other HPT.out ha8 hac
        rw [load_bad (v := ⟨pn, b, 0⟩) (by unfold swp; rw [List.length_set, List.length_set]; omega) hsw.1 ha8 hsw.2 hac]
        have HBk := Lib.hid ((HBj.out.grown hg).add 0 0 0)
        clear hs' hg HBj hsw
        unfold valV valC val0
        dsimp only
        obtain ⟨x0, x1, x2, hz⟩ := HBk.out.cells (q := q) (n := pn) (b := b) (f := 0) (by simp)
        obtain ⟨y0, y1, y2, hz1⟩ := HBk.out.cells (q := wb.heap.size) (n := pn) (b := b) (f := 0) (by simp)
        have e1 : ((a : Int) == c) = false := by simp; omega
        have e2 : ((a : Int) != c) = true := by simp; omega
        clear hac
        go_wp2_with fail
        go_ret
        exact ⟨rfl, HBk.out.st.gr⟩

theorem parts_at (v : Val) (t s : Int) (ht0 : 0 ≤ t) (ht : t < 256) (hs0 : 0 ≤ s) (hs : s < 256) (w : World) :
    Calls Try.prog 5 #[valV v, .int .u8 t, .int .u8 s] w fun e w' => e = .returned (.bool true) ∧ w.grownBy w' none := by
  obtain ⟨n, rfl⟩ : ∃ n : Nat, t = n := ⟨t.toNat, by omega⟩
  obtain ⟨k, rfl⟩ : ∃ k : Nat, s = k := ⟨s.toNat, by omega⟩
  obtain ⟨pn, pb, pf⟩ := v
  exact parts_walk pn pb pf n k (by omega) (by omega) w

end Go.Proofs.Ytblhnjoophhliaa
