/- The document's memory: Fill. -/
import Derived.Test.YtblhnjoophhliaaM29
namespace Go.Proofs.Ytblhnjoophhliaa
open Go.RowKit
theorem own_gr {w w' : World} {B n size : Nat} {e : TypeId} {v : Value} {xs : List Value} (h : w.ownsRow B e size v n xs) (g : w.grownBy w' none) : w'.ownsRow B e size v n xs :=
  ⟨h.1, h.2.imp id (by
    rintro ⟨r, cap, cur, e0, hr, hh, q⟩
    exact ⟨r, cap, cur, e0, hr, (g.block r (lt_of_heap hh) (by simp)).trans hh, q⟩)⟩
theorem own_ge {w : World} {B n size : Nat} {e : TypeId} {v : Value} {xs : List Value} (h : w.ownsRow B e size v n xs) {k : Nat} (hk : v.ownBlock = some k) : B ≤ k := by
  rcases h.2 with ⟨rfl, _⟩ | ⟨g, cap, cur, rfl, hb, _⟩
  · cases hk
  · simp [Value.ownBlock] at hk; omega
theorem gr_far {w a b : World} {r : Option Nat} {B : Nat} (h : w.grownBy a none) (g : a.grownBy b r) (hB : w.heap.size ≤ B) (hr : ∀ k, r = some k → B ≤ k) : w.grownBy b none :=
  ⟨g.os.trans h.os, g.tape.trans h.tape, g.output.trans h.output, Nat.le_trans h.size g.size, fun k hk _ => (g.block k (Nat.lt_of_lt_of_le hk h.size) (fun e => by have := hr k e.symm; omega)).trans (h.block k hk (by simp))⟩
theorem VBox.farB {a b : World} {r : Option Nat} {B q : Nat} {v : Val} (h : VBox a q v) (g : a.grownBy b r) (hq : q < B) (hr : ∀ k, r = some k → B ≤ k) : VBox b q v := h.gr g (fun e => by have := hr q e.symm; omega)
theorem P3.far {w a b : World} {p q r : Val} {o : Option Nat} (h : P3 w p q r a) (g : a.grownBy b o) (ho : ∀ k, o = some k → w.heap.size + 3 ≤ k) : P3 w p q r b :=
  ⟨h.b0.farB g (by omega) ho, h.b1.farB g (by omega) ho, h.b2.farB g (by omega) ho, gr_far h.gr g (by omega) ho⟩
theorem u64b (v : Int) : (IntKind.u64.wrap v).tmod 256 % 256 = v % 256 := by
  have e : IntKind.u64.wrap v = v % 18446744073709551616 := by simp [IntKind.wrap, IntKind.signed, IntKind.bits]
  rw [e, Int.tmod_eq_emod_of_nonneg (by omega)]
  omega
theorem five_cells (w : World) (b : Byt) : ∀ (j : Nat) (u : Value), (bytC b).toList[j]? = some u → (w.alloc (.cells #[.int .i64 b.k, .int .u8 b.v, .int .i64 b.p.n, .int .i64 b.p.b, .int .i64 b.p.f] 67)).cell? ((⟨w.heap.size, 0, none⟩ : Addr).add j) = some u := by
  intro j u hu
  have e := heap_alloc_new w (.cells #[.int .i64 b.k, .int .u8 b.v, .int .i64 b.p.n, .int .i64 b.p.b, .int .i64 b.p.f] 67)
  rw [add_zero0]
  simp only [World.cell?, e]
  rcases j with _ | _ | _ | _ | _ | j
  all_goals first | (simp [bytC] at hu; done) | simpa [bytC] using hu
set_option maxRecDepth 100000 in
set_option maxHeartbeats 4000000 in
theorem rFill_no {S : Nat → Prop} {ad : Option Addr} {rs : List RB} (cap : Nat) (p v n : Val) (w : World) (h : RefAt S w ad rs) (hc : numB v = false ∨ numB n = false ∨ lenB n.n = false ∨ cutB (rsB rs) p n.n = none) :
    Calls Try.prog 24 #[.slice ad rs.length cap, valV p, valV v, valV n] w fun e w' => e = .returned (.tuple #[.slice ad rs.length cap, .int .i64 9]) ∧ w.grownBy w' none := by
  have HR := Lib.hid h
  have HC := Lib.hid hc
  obtain ⟨pn, pb, pf⟩ := p
  obtain ⟨vn, vb, vf⟩ := v
  obtain ⟨nn, nb, nf⟩ := n
  unfold valV valC
  dsimp only at *
  have HV0 := Lib.hid (P3.new w pn pb pf vn vb vf nn nb nf)
  clear h hc
  go_enter Try.func24, Try.ntmps24
  go_wp2_with fail
  refine (show Calls Try.prog 45 #[.agg #[.int .i64 vn, .int .i64 vb, .int .i64 vf]] _ _ from r10_Number_any ⟨vn, vb, vf⟩ _).mono ?_
  rintro e w1 ⟨rfl, g1⟩
  have HV1 := Lib.hid (HV0.out.grown g1)
  clear g1
  obtain ⟨x0, x1, x2, y0, y1, y2, z0, z1, z2, hz⟩ := P3.reads HV1.out
  rcases hv : numB ⟨vn, vb, vf⟩
  · go_wp2_with fail
    go_ret2
    exact ⟨rfl, HV1.out.gr⟩
  · have HN := Lib.hid hv
    clear hv
    go_wp2_with fail
    refine (show Calls Try.prog 45 #[.agg #[.int .i64 nn, .int .i64 nb, .int .i64 nf]] _ _ from r10_Number_any ⟨nn, nb, nf⟩ _).mono ?_
    rintro e w2 ⟨rfl, g2⟩
    have HV2 := Lib.hid (HV1.out.grown g2)
    clear g2 x0 x1 x2 y0 y1 y2 z0 z1 z2 hz HV1
    obtain ⟨x0, x1, x2, y0, y1, y2, z0, z1, z2, hz⟩ := P3.reads HV2.out
    rcases hn : numB ⟨nn, nb, nf⟩
    · go_wp2_with fail
      go_ret2
      exact ⟨rfl, HV2.out.gr⟩
    · have HNN := Lib.hid hn
      clear hn
      by_cases a0 : nn < 0
      · go_wp2_with fail
        go_ret2
        exact ⟨rfl, HV2.out.gr⟩
      · by_cases a1 : 4096 < nn
        · go_wp2_with fail
          go_ret2
          exact ⟨rfl, HV2.out.gr⟩
        · have HQ := Lib.hid (show cutB (rsB rs) ⟨pn, pb, pf⟩ nn = none from by
            rcases HC.out with h | h | h | h
            · rw [HN.out] at h; cases h
            · rw [HNN.out] at h; cases h
            · have := of_decide_eq_false (show decide _ = false from h); omega
            · exact h)
          have a2 : 0 ≤ nn := by omega
          go_wp2_with fail
          refine (show Calls Try.prog 43 #[.slice ad rs.length cap, .agg #[.int .i64 pn, .int .i64 pb, .int .i64 pf], .int .i64 nn] _ _ from May_any cap ⟨pn, pb, pf⟩ nn a2 _ (HR.out.gr HV2.out.gr)).mono ?_
          rintro e w3 ⟨rfl, g3⟩
          rw [HQ.out]
          have HG3 := Lib.hid (grownBy_trans HV2.out.gr g3)
          clear g3
          go_wp2_with fail
          go_ret2
          exact ⟨rfl, HG3.out⟩
theorem cutB_in {rs : List RB} {p : Val} {n k : Nat} (hc : cutB (rsB rs) p n = some k) : ∃ x, rs[k]? = some x ∧ p.b = (k : Int) + 1 ∧ ∃ o : Nat, p.n = o ∧ o + n ≤ x.bytes.length := by
  rw [cutB_rs] at hc
  rcases hf : findI rs.length p.b with _ | i
  · rw [hf] at hc; cases hc
  · rw [hf] at hc
    dsimp only at hc
    rcases hx : rs[i]? with _ | x
    · rw [hx] at hc; cases hc
    · rw [hx] at hc
      dsimp only at hc
      split at hc
      · rename_i hq
        injection hc with hc
        subst hc
        have hw := of_decide_eq_true (show decide _ = true from hq.2.2)
        exact ⟨x, hx, (findI_some hf).1, p.n.toNat, by omega, by omega⟩
      · cases hc
set_option maxRecDepth 100000 in
set_option maxHeartbeats 4000000 in
theorem rFill_yes {S : Nat → Prop} {ad : Option Addr} {rs : List RB} (cap : Nat) (p v n : Val) (c k : Nat) (w : World) (h : RefAt S w ad rs) (hv : numB v = true) (hn : numB n = true) (hnc : n.n = c) (hcl : c ≤ 4096) (hc : cutB (rsB rs) p c = some k) :
    Calls Try.prog 24 #[.slice ad rs.length cap, valV p, valV v, valV n] w fun e w' => ∃ u, e = .returned (.tuple #[u, .int .i64 0]) ∧ RefP S w w' u (layBs (rsB rs) k p.n.toNat (nums (v.n % 256) c)) ∧ w.grownBy w' none := by
  have HR := Lib.hid h
  have HC := Lib.hid hc
  have HV := Lib.hid hv
  have HN := Lib.hid hn
  obtain ⟨x, hx, hpb, o, hpo, hol⟩ := cutB_in hc
  have HX := Lib.hid hx
  obtain ⟨pn, pb, pf⟩ := p
  obtain ⟨vn, vb, vf⟩ := v
  obtain ⟨nn, nb, nf⟩ := n
  unfold valV valC
  dsimp only at *
  subst hnc hpb hpo
  rw [Int.toNat_natCast]
  have HV0 := Lib.hid (P3.new w o ((k : Int) + 1) pf vn vb vf c nb nf)
  obtain ⟨i0, hi, hz0, hz1, hz2⟩ := info_parts infoByte
  clear h hc hv hn hx
  go_enter Try.func24, Try.ntmps24
  go_wp2_with fail
  refine (show Calls Try.prog 45 #[.agg #[.int .i64 vn, .int .i64 vb, .int .i64 vf]] _ _ from r10_Number_any ⟨vn, vb, vf⟩ _).mono ?_
  rintro e w1 ⟨rfl, g1⟩
  rw [HV.out]
  have HV1 := Lib.hid (HV0.out.grown g1)
  clear g1
  obtain ⟨x0, x1, x2, y0, y1, y2, z0, z1, z2, hz⟩ := P3.reads HV1.out
  go_wp2_with fail
  refine (show Calls Try.prog 45 #[.agg #[.int .i64 c, .int .i64 nb, .int .i64 nf]] _ _ from r10_Number_any ⟨c, nb, nf⟩ _).mono ?_
  rintro e w2 ⟨rfl, g2⟩
  rw [HN.out]
  have HV2 := Lib.hid (HV1.out.grown g2)
  clear g2 x0 x1 x2 y0 y1 y2 z0 z1 z2 hz HV1
  obtain ⟨x0, x1, x2, y0, y1, y2, z0, z1, z2, hz⟩ := P3.reads HV2.out
  have e0 : decide ((c : Int) < 0) = false := decide_eq_false (by omega)
  have e1 : decide (4096 < (c : Int)) = false := decide_eq_false (by omega)
  go_wp2_with fail
  refine (show Calls Try.prog 43 #[.slice ad rs.length cap, .agg #[.int .i64 o, .int .i64 ((k : Int) + 1), .int .i64 pf], .int .i64 c] _ _ from May_any cap ⟨o, (k : Int) + 1, pf⟩ c (by omega) _ (HR.out.gr HV2.out.gr)).mono ?_
  rintro e w3 ⟨rfl, g3⟩
  rw [HC.out]
  have HV3 := Lib.hid (HV2.out.grown g3)
  clear g3 x0 x1 x2 y0 y1 y2 z0 z1 z2 hz HV2 e0 e1
  go_wp2_with fail
  go_loopw [10, 11] (fun l i W => ∃ j : Nat, j ≤ c ∧ i = .int .i64 j ∧ P3 w ⟨o, (k : Int) + 1, pf⟩ ⟨vn, vb, vf⟩ ⟨c, nb, nf⟩ W ∧ W.ownsRow (w.heap.size + 3) 67 5 l j (flatC bytC (nums (vn % 256) j))) (fun _ i _ => c - (intOf i).toNat)
  case atStart => exact ⟨0, Nat.zero_le _, rfl, HV3.out, ⟨rfl, .inl ⟨rfl, rfl⟩⟩⟩
  case round =>
    obtain ⟨j, hj, rfl, hP, hO⟩ := hrel
    obtain ⟨la, lc, rfl, _, _⟩ := own_form hO
    have HP := Lib.hid hP
    have HO := Lib.hid hO
    obtain ⟨x0, x1, x2, y0, y1, y2, z0, z1, z2, hz⟩ := P3.reads hP
    clear hP hO
    by_cases hlt : j < c
    · go_wp2_with (at_builtin; go_must (refine wpList_append_own _ rfl (.tmp 45) (.tmp 52) 55 rfl (w.heap.size + 3) 67 i0 _ 5 40 Try.underlying55 hi hz0 hz1 hz2 rfl (by decide) _ j (flatC bytC (nums (vn % 256) j)) rfl (own_gr HO.out (gr_alloc (grownBy_refl wr none) _)) ⟨wr.heap.size, 0, none⟩ 1 1 (bytC ⟨1, vn % 256, val0⟩).toList rfl rfl (by rw [u64b]; exact five_cells wr ⟨1, vn % 256, val0⟩) (bytC_one _) (by unfold maxLen; omega) (by omega) (by simp only [World.size_alloc]; omega) ?_; intro v' w4 hown hgr _; have HO4 := Lib.hid hown; have HG4 := Lib.hid hgr; clear hown hgr))
      go_roundw
      case rel =>
        refine ⟨j + 1, by omega, by go_num, (HP.out.grown (gr_alloc (grownBy_refl wr none) _)).far HG4.out (fun q hq => own_ge HO.out hq), ?_⟩
        have h := HO4.out
        rw [← nums_succ, flat_app]
        simpa [flatC] using h
      case measure => simp [intOf]; omega
    · have e : j = c := by omega
      subst e
      clear hlt
      go_wp2_with fail
      have hln : (nums (vn % 256) j).length = j := nums_len _ _
      have hO := HO.out
      have hrd : RdAt wr la (nums (vn % 256) j) := own_rd (B := w.heap.size + 3) (c := lc) (by rw [hln]; exact hO)
      have hL := Lay_any cap lc ⟨o, (k : Int) + 1, pf⟩ (nums (vn % 256) j) wr (HR.out.gr HP.out.gr) (k := k) (o := o) HX.out rfl rfl (by rw [hln]; exact hol) hrd (fun b hb => by
        have := List.eq_of_mem_replicate hb
        subst this
        show 0 ≤ vn % 256 ∧ vn % 256 < 256
        omega)
      unfold valV valC at hL
      rw [hln] at hL
      have HL := Lib.hid hL
      clear hL hrd hO hln
      refine HL.out.mono ?_
      rintro e w4 ⟨u, rfl, h4, g4⟩
      have H4 := Lib.hid (RefP.pre HP.out.gr HR.out.lt g4 h4)
      have HG4 := Lib.hid (grownBy_trans HP.out.gr g4)
      clear h4 g4
      go_wp2_with fail
      go_ret2
      exact ⟨u, rfl, H4.out, HG4.out⟩
theorem lay_B {L : List (Nat × Blk)} {k o : Nat} {l : List Byt} {x : Nat × Blk} (hx : L[k]? = some x) : (L.set k (putB x (splice x.2.bytes o l))).map (·.2) = layBs (L.map (·.2)) k o l := by
  unfold layBs
  rw [List.getElem?_map, hx, List.map_set]
  rfl
theorem cut_in0 {L : List (Nat × Blk)} {p : Val} {n : Int} {k : Nat} (hc : cutI L p n = some k) : ∃ x, L[k]? = some x := by
  obtain ⟨_, _, x, hx, _⟩ := cutI_some hc
  exact ⟨x, hx⟩
def fillBs (bs : List Blk) (p v n : Val) : List Blk × Int :=
  if numB v = false ∨ numB n = false ∨ lenB n.n = false then (bs, 9) else
  match cutB bs p n.n with
  | none => (bs, 9)
  | some k => (layBs bs k p.n.toNat (nums (v.n % 256) n.n.toNat), 0)
theorem fill_B (L : List (Nat × Blk)) (p v n : Val) : ((fillP L p v n).1.map (·.2), (fillP L p v n).2) = fillBs (L.map (·.2)) p v n := by
  unfold fillP fillBs
  rw [← cut_B]
  by_cases h : numB v = false ∨ numB n = false ∨ lenB n.n = false
  · rw [if_pos h, if_pos h]
  · rw [if_neg h, if_neg h]
    rcases hc : cutI L p n.n with _ | k
    · rfl
    · obtain ⟨x, hx⟩ := cut_in0 hc
      simp only [hx]
      rw [lay_B hx]
theorem rFill_any {S : Nat → Prop} {ad : Option Addr} {rs : List RB} (cap : Nat) (p v n : Val) (w : World) (h : RefAt S w ad rs) :
    Calls Try.prog 24 #[.slice ad rs.length cap, valV p, valV v, valV n] w fun e w' => ∃ u, e = .returned (.tuple #[u, .int .i64 (fillBs (rsB rs) p v n).2]) ∧ RefP S w w' u (fillBs (rsB rs) p v n).1 ∧ w.grownBy w' none := by
  unfold fillBs
  by_cases hn : numB v = false ∨ numB n = false ∨ lenB n.n = false
  · rw [if_pos hn]
    exact (rFill_no cap p v n w h (by rcases hn with a | a | a; exact .inl a; exact .inr (.inl a); exact .inr (.inr (.inl a)))).mono fun e w' hh => ⟨_, hh.1, RefP.same h hh.2, hh.2⟩
  · rw [if_neg hn]
    have h1 : numB v = true := by rcases e : numB v; exact absurd (.inl e) hn; rfl
    have h2 : numB n = true := by rcases e : numB n; exact absurd (.inr (.inl e)) hn; rfl
    have h3 : lenB n.n = true := by rcases e : lenB n.n; exact absurd (.inr (.inr e)) hn; rfl
    obtain ⟨m, hm, hm4⟩ := lenB_true h3
    rcases hc : cutB (rsB rs) p n.n with _ | k
    · exact (rFill_no cap p v n w h (.inr (.inr (.inr hc)))).mono fun e w' hh => ⟨_, hh.1, RefP.same h hh.2, hh.2⟩
    · have := rFill_yes cap p v n m k w h h1 h2 hm hm4 (by rw [← hm]; exact hc)
      rw [hm, Int.toNat_natCast]
      exact this

end Go.Proofs.Ytblhnjoophhliaa
