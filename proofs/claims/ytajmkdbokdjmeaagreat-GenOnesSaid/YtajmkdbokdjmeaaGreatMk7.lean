/- Merged: Gni, Rn1, Rn2, Rn3, Rn4, Rn5. -/
import Derived.Test.YtajmkdbokdjmeaaGreatMk6
/- gen: Gen. -/
namespace Go.Proofs.YtajmkdbokdjmeaaGreat
open Go.RowKit
theorem ite_len {q : Prop} [Decidable q] {A B : List Kon} {n : Nat} (hA : q → A.length ≤ n) (hB : ¬ q → B.length ≤ n) : (if q then A else B).length ≤ n := by
  split
  · exact hA (by assumption)
  · exact hB (by assumption)
theorem nil_len : ([] : List Kon).length ≤ 4001 := Nat.zero_le _
theorem one_len (x : Kon) : [x].length ≤ 4001 := (by decide : 1 ≤ 4001)
theorem two_len (x y : Kon) : [x, y].length ≤ 4001 := (by decide : 2 ≤ 4001)
theorem consI_len (fs : List Fun') (fn : Nat) {m : Nat} {i : Ins} (h : SmallI m i) : (consI fs fn i).length ≤ 4001 := by
  unfold consI
  repeat' first
    | with_reducible exact nil_len
    | with_reducible exact one_len _
    | with_reducible exact two_len _ _
    | with_reducible refine ite_len (fun e => ?_) (fun e => ?_)
  unfold callV
  rw [List.length_append, argV_len, List.length_map]
  have := (h.1 (by assumption)).2.2
  simp
  omega
structure GenOK (p : Prg) : Prop where
  made ::
  small : SmallF p.fns
  ins : ∀ f ∈ p.fns, ∀ i ∈ f.code, SmallI p.fns.length i
theorem codeK_len (fs : List Fun') (fn m : Nat) {l : List Ins} (h : ∀ i ∈ l, SmallI m i) : ∀ c, c ≤ l.length → (codeK fs fn l c).length ≤ 4001 * c
  | 0, _ => Nat.zero_le _
  | c + 1, hc => by
    have hx := List.getElem?_eq_getElem (show c < l.length by omega)
    rw [codeK_succ hx, List.length_append, List.length_map]
    have h1 := codeK_len fs fn m h c (by omega)
    have h2 := consI_len fs fn (h _ (List.getElem_mem (show c < l.length by omega)))
    omega
theorem genK_len {p : Prg} (h : GenOK p) : ∀ k, k ≤ p.fns.length → (genK p.fns k).length ≤ 16004000 * k
  | 0, _ => Nat.zero_le _
  | k + 1, hk => by
    have hx := List.getElem?_eq_getElem (show k < p.fns.length by omega)
    have hm := List.getElem_mem (show k < p.fns.length by omega)
    rw [genK_succ hx, List.length_append]
    have h1 := genK_len h k (by omega)
    have h2 := codeK_len p.fns k p.fns.length (h.ins _ hm) _ (Nat.le_refl _)
    have h3 := (h.small.2 _ hm).2.2
    omega
theorem OwR.fresh {base : Nat} {W : World} {A : Option Addr} {n c : Nat} {E : List Kon} (h : OwR base W (.slice A n c) E) : ∀ ad, A = some ad → base ≤ ad.block := by
  intro ad e
  rcases h.2 with ⟨h1, _⟩ | ⟨g, cap, cur, h1, hb, _⟩
  · injection h1 with h1
    rw [h1] at e
    cases e
  · injection h1 with h1
    rw [h1] at e
    injection e with e
    subst e
    exact hb
/-- What Gen returns: constraints in memory, these ones. -/
def GenRet (w : World) (G : List Kon) (e : Ending) (w' : World) : Prop :=
  ∃ A c L, e = .returned (.slice A L.length c) ∧ (A = none → c = 0) ∧ StrAt konC 9 w' A L ∧ KArgs w' L ∧ L.map bare = G ∧ w.grownBy w' none ∧ ∀ ad, A = some ad → w.heap.size ≤ ad.block
theorem GenSt.first {w0 : World} {F S : Value} : GenSt w0 w0.heap.size F S [] (w0.alloc (.cells #[F, S, .slice none 0 0] 60)) :=
  ⟨gr_alloc (grownBy_refl _ _) _, Nat.le_refl _, ⟨_, heap_alloc_new w0 _, OwR.nil _ _⟩, .nil _⟩
set_option maxRecDepth 100000 in
set_option maxHeartbeats 16000000 in
theorem Gen_any (p : Prg) (w : World) (hp : PrgOk w p) (hk : GenOK p) : Calls Tryz.prog 14 #[prgV p] w (GenRet w (genK p.fns p.fns.length)) := by
  have HP := Lib.hid hp
  have HK := Lib.hid hk
  have hn := hk.small.1
  clear hp hk
  unfold prgV prgC
  go_enter Tryz.func14, Tryz.ntmps14
  go_wp2_with fail
  refine (show Calls Tryz.prog 10 #[.agg #[.slice p.sa p.sites.length p.sc, .slice p.fa p.fns.length p.fc, .int .i64 p.main]] _ _ from Vars_any p _ (HP.out.2.2.2.1.keep (CellsK.of (gr_alloc (grownBy_refl w none) _))) HK.out.small).mono ?_
  rintro e w1 ⟨Sa, Sc, rfl, hF, hg1⟩
  have HG1 := Lib.hid (grownBy_trans (gr_alloc (grownBy_refl w none) _) hg1)
  have HB1 := Lib.hid (show BoxC (prgC p) 25 w.heap.size w1 from BoxC.gr (BoxC.new w _ _) hg1)
  have H0 := Lib.hid (show Gen0 p Sa Sc w1 from ⟨hF.ints, HP.out.2.2.2.1.keep (CellsK.of HG1.out), HK.out.small⟩)
  obtain ⟨b0, b1, b2⟩ := boxP HB1.out
  have hbl := lt_of_heap HB1.out
  clear hF hg1
  go_wp2_with fail
  have HS1 := Lib.hid (show GenP p Sa Sc w1 w1.heap.size [] _ from GenSt.first)
  generalize hw2 : w1.alloc _ = w2 at *
  have hgb : w1.heap.size < w2.heap.size := by rw [← hw2]; simp
  have HB2 := Lib.hid (show BoxC (prgC p) 25 w.heap.size w2 by rw [← hw2]; exact HB1.out.gr (gr_alloc (grownBy_refl _ _) _))
  clear hw2 b0 b1 b2
  generalize w1.heap.size = gb at *
  go_loopw [22] (fun i wr => ∃ (k : Nat) (L : List Kon), k ≤ p.fns.length ∧ i = .int .i64 k ∧ Hid (L.map bare = genK p.fns k) ∧ Hid (GenP p Sa Sc w1 gb L wr)) (fun i _ => p.fns.length - (intOf i).toNat)
  case atStart => exact ⟨0, [], Nat.zero_le _, rfl, Lib.hid rfl, HS1⟩
  case round =>
    obtain ⟨k, L, hk, rfl, HL, HS⟩ := hrel
    have HQ := Lib.hid (show IntKind.i64.wrap ((k : Int) + 1) = (k : Int) + 1 by rw [IntKind.wrap_i64]; omega)
    by_cases hlt : k < p.fns.length
    · have HWR := Lib.hid (grownBy_trans HG1.out HS.out.gr)
      obtain ⟨ad, ha, f0, f1, f2, f3, f4⟩ := fun_cells (HP.out.2.2.2.1.keep (CellsK.of HWR.out)) hlt
      have HFK := Lib.hid (HP.out.2.2.2.2 _ (List.getElem_mem hlt))
      have HFI := Lib.hid (HK.out.ins _ (List.getElem_mem hlt))
      have HFS := Lib.hid (HK.out.small.2 _ (List.getElem_mem hlt))
      have hx := List.getElem?_eq_getElem hlt
      have HX := Lib.hid hx
      generalize p.fns[k]'hlt = f at *
      have hlk := genK_len HK.out k hk
      have HLL := Lib.hid (show L.length ≤ 16004000 * k by rw [← HL.out, List.length_map] at hlk; exact hlk)
      clear hx hlk
      rw [ha]
      have HAF := Lib.hid ha
      go_wp2_with fail
      go_loopw [30] (fun i wr => ∃ (q : Nat) (M : List Kon), q ≤ f.code.length ∧ i = .int .i64 q ∧ Hid (M.map bare = genK p.fns k ++ codeK p.fns k f.code q) ∧ Hid (GenP p Sa Sc w1 gb M wr)) (fun i _ => f.code.length - (intOf i).toNat)
      case atStart => exact ⟨0, L, Nat.zero_le _, rfl, Lib.hid (by rw [HL.out]; simp [codeK]), Lib.hid (HS.out.keep (by repeat (first | with_reducible exact grownBy_refl _ _ | with_reducible assumption | with_reducible refine World.grownBy.gr_drew ?_ | with_reducible refine World.grownBy.gr_set ?_ (by simp) _ | with_reducible refine gr_alloc ?_ _)))⟩
      case round =>
        obtain ⟨q, M, hq, rfl, HM, HT⟩ := hrel
        have hfc : f.code.length ≤ 4000 := HFS.out.2.2
        have HQ2 := Lib.hid (show IntKind.i64.wrap ((q : Int) + 1) = (q : Int) + 1 by rw [IntKind.wrap_i64]; omega)
        clear f0 f1 f2 f3 f4
        by_cases hlc : q < f.code.length
        · have HWT := Lib.hid (grownBy_trans HG1.out HT.out.gr)
          obtain ⟨cd, hcd, c0, c1, c2, c3, c4, c5, c6, c7⟩ := ins_cells (HFK.out.2.2.2.1.keep (CellsK.of HWT.out)) hlc
          have HIK := Lib.hid (HFK.out.2.2.2.2 _ (List.getElem_mem hlc))
          have HIS := Lib.hid (HFI.out _ (List.getElem_mem hlc))
          have hy := List.getElem?_eq_getElem hlc
          have HY := Lib.hid hy
          generalize f.code[q]'hlc = i at *
          have hll : M.length ≤ 40000000000 := by
            have h1 := codeK_len p.fns k p.fns.length HFI.out q hq
            have h2 := congrArg List.length HM.out
            rw [List.length_map, List.length_append, ← HL.out, List.length_map] at h2
            have := HFS.out
            have := HLL.out
            omega
          have HLEN := Lib.hid hll
          clear hy hll
          rw [hcd]
          go_wp2_with fail
          refine (insn_any H0.out (HT.out.keep (gr_alloc (grownBy_refl _ _) _)) hlt HLEN.out i (HIK.out.1.keep (CellsK.of (grownBy_trans HWT.out (gr_alloc (grownBy_refl _ _) _)))) HIS.out).mono ?_
          rintro e w5 ⟨rfl, D, hD, hS5, hF5⟩
          have HE5 := Lib.hid (show (M ++ D).map bare = genK p.fns k ++ codeK p.fns k f.code (q + 1) by rw [List.map_append, HM.out, hD, codeK_succ HY.out, List.append_assoc])
          have HS5 := Lib.hid (show GenP p Sa Sc w1 gb (M ++ D) w5 from hS5)
          clear hD hS5 hF5 c0 c1 c2 c3 c4 c5 c6 c7
          go_wp2_with fail
          exact ⟨⟨q + 1, _, hlc, rfl, HE5, HS5⟩, by simp [intOf]; omega⟩
        · obtain rfl : q = f.code.length := by omega
          go_wp2_with fail
          exact ⟨⟨k + 1, M, hlt, rfl, Lib.hid (by rw [HM.out, genK_succ HX.out]), HT⟩, by simp [intOf]; omega⟩
    · obtain rfl : k = p.fns.length := by omega
      obtain ⟨v, hb, hv⟩ := HS.out.box
      obtain ⟨V, c0, rfl, hc0, hV⟩ := hv.at_
      have g2 : wr.cell? ⟨gb, 2, none⟩ = some (.slice V L.length c0) := by rw [cell_of_row _ _ _ _ _ _ hb]; rfl
      have HV := Lib.hid hV
      have HFR := Lib.hid hv.fresh
      have HC0 := Lib.hid hc0
      clear hb hv hV hc0
      go_wp2_with fail
      go_ret
      exact ⟨V, c0, L, rfl, HC0.out, HV.out, HS.out.args, HL.out, grownBy_trans HG1.out HS.out.gr, fun ad h => Nat.le_trans HG1.out.size (HFR.out ad h)⟩

end Go.Proofs.YtajmkdbokdjmeaaGreat
/- The document's First, Told, two. -/
namespace Go.Proofs.YtajmkdbokdjmeaaGreat
open Go.RowKit
set_option maxRecDepth 100000 in
set_option maxHeartbeats 8000000 in
theorem First_any (p : Prg) (w : World) (hf : StrAt funC 5 w p.fa p.fns) (hs : SmallF p.fns) (k : Nat) (hk : k ≤ p.fns.length) :
    Calls Tryz.prog 19 #[prgV p, .int .i64 k] w fun e w' => e = .returned (.int .i64 (fstK p.fns k)) ∧ w.grownBy w' none := by
  have HF := Lib.hid hf
  have HS := Lib.hid hs
  have hn := hs.1
  clear hf hs
  unfold prgV prgC
  go_enter Tryz.func19, Tryz.ntmps19
  go_wp2_with fail
  go_loopw [5, 6] (fun s i wr => ∃ q : Nat, q ≤ k ∧ i = .int .i64 q ∧ s = .int .i64 (fstK p.fns q) ∧ Hid (BoxC (prgC p) 25 w.heap.size wr) ∧ Hid (w.grownBy wr none)) (fun s i _ => k - (intOf i).toNat)
  case atStart => exact ⟨0, Nat.zero_le _, rfl, rfl, Lib.hid (BoxC.new w _ _), Lib.hid (by repeat (first | with_reducible exact grownBy_refl _ _ | with_reducible assumption | with_reducible refine World.grownBy.gr_drew ?_ | with_reducible refine World.grownBy.gr_set ?_ (by simp) _ | with_reducible refine gr_alloc ?_ _))⟩
  case round =>
    obtain ⟨q, hq, rfl, rfl, HB, HG⟩ := hrel
    have hbl := lt_of_heap HB.out
    obtain ⟨b0, b1, b2⟩ := boxP HB.out
    by_cases hlt : q < k
    · have hqn : q < p.fns.length := by omega
      obtain ⟨ad, ha, f0, f1, f2, f3, f4⟩ := fun_cells (HF.out.keep (CellsK.of HG.out)) hqn
      have hx := List.getElem?_eq_getElem hqn
      generalize p.fns[q]'hqn = f at *
      have HSU := Lib.hid (fstK_succ hx)
      have hb := HS.out.fst q
      have hr := HS.out.2 f (List.mem_of_getElem? hx)
      have HQ := Lib.hid (show IntKind.i64.wrap ((q : Int) + 1) = (q : Int) + 1 by rw [IntKind.wrap_i64]; omega)
      have hw1 : IntKind.i64.wrap (fstK p.fns q + f.regs) = fstK p.fns q + f.regs := by rw [IntKind.wrap_i64]; omega
      have hw2 : IntKind.i64.wrap (fstK p.fns q + f.regs + 1) = fstK p.fns (q + 1) := by rw [HSU.out, IntKind.wrap_i64]; omega
      clear hx hb hr
      rw [ha] at b1
      go_wp2_with fail
      exact ⟨⟨q + 1, hlt, rfl, rfl, HB, HG⟩, by simp [intOf]; omega⟩
    · obtain rfl : q = k := by omega
      go_wp2_with fail
      go_ret
      exact ⟨rfl, HG.out⟩
set_option maxRecDepth 100000 in
set_option maxHeartbeats 8000000 in
theorem Told_any (p : Prg) (w : World) (hf : StrAt funC 5 w p.fa p.fns) (hs : SmallF p.fns) (k : Nat) (hk : k < p.fns.length) :
    Calls Tryz.prog 36 #[prgV p, .int .i64 k] w fun e w' => e = .returned (.int .i64 (tellK p.fns k)) ∧ w.grownBy w' none := by
  have HF := Lib.hid (First_any p (w.alloc (.cells (prgC p) 25)) (hf.keep (CellsK.of (gr_alloc (grownBy_refl _ _) _))) hs (k + 1) hk)
  have hn := hs.1
  have hb := hs.fst (k + 1)
  have hq : IntKind.i64.wrap ((k : Int) + 1) = ((k + 1 : Nat) : Int) := by rw [IntKind.wrap_i64]; omega
  have hw : IntKind.i64.wrap (fstK p.fns (k + 1) - 1) = tellK p.fns k := by rw [IntKind.wrap_i64]; unfold tellK; omega
  clear hf hs hb
  unfold prgV prgC at *
  go_enter Tryz.func36, Tryz.ntmps36
  go_wp2_with fail
  refine HF.out.mono ?_
  rintro e w1 ⟨rfl, hg1⟩
  have HG1 := Lib.hid (grownBy_trans (gr_alloc (grownBy_refl w none) _) hg1)
  clear hg1
  go_wp2_with fail
  go_ret
  exact ⟨rfl, HG1.out⟩
theorem OwR.one {base b : Nat} {W : World} {k : Kon} (h : W.heap[b]? = some (.cells (konC k) 43 (0, 0))) (hb : base ≤ b) : OwR base W (.slice (some ⟨b, 0, none⟩) 1 1) [k] := by
  refine ⟨rfl, .inr ⟨b, 1, konC k, rfl, hb, h, Nat.le_refl _, by unfold maxLen; omega, rfl, ?_⟩⟩
  show (konC k).toList.take (1 * 9) = flatC konC [k]
  unfold flatC konC
  simp
set_option maxRecDepth 100000 in
set_option maxHeartbeats 4000000 in
theorem two_any (k a b n : Int) (w : World) :
    Calls Tryz.prog 35 #[.int .i64 k, .int .i64 a, .int .i64 b, .int .i64 n] w fun e w' => e = .returned (.slice (some ⟨w.heap.size, 0, none⟩) 1 1) ∧ OwR w.heap.size w' (.slice (some ⟨w.heap.size, 0, none⟩) 1 1) [twoK k a b n] ∧ w.grownBy w' none := by
  go_enter Tryz.func35, Tryz.ntmps35
  go_wp2_with fail
  go_ret
  exact ⟨rfl, OwR.one (heap_alloc_new w (.cells (konC (twoK k a b n)) 43)) (Nat.le_refl _), by repeat (first | with_reducible exact grownBy_refl _ _ | with_reducible assumption | with_reducible refine World.grownBy.gr_drew ?_ | with_reducible refine World.grownBy.gr_set ?_ (by simp) _ | with_reducible refine gr_alloc ?_ _)⟩
theorem step_app_kons {w : World} {ops : Array Oper} {o : Oper} {a : Act} {K : Act → World → Prop} {Q : Exit → Act → World → Prop} {E' : Prop} (hgd : o.guard = none) (s x : Operand)
    (ho : o.op = .call { callee := .builtin .append, args := #[s, x], argTypes := #[33, 33] })
    (base : Nat) (v : Value) (E D : List Kon) (hs : a.eval s = v) (hown : OwR base w v E) (ad : Addr) (c n : Nat) (hnD : n = D.length)
    (hx : a.eval x = .slice (some ad) n c) (hD : StrAt konC 9 w (some ad) D) (hn : E.length + D.length ≤ 100000000000) (hbase : base ≤ w.heap.size)
    (h : ∀ v' w', OwR base w' v' (E ++ D) → w.grownBy w' v.ownBlock → K (a.put o.dst v') w') : if Region.wanted o (yielded ops a.tmps) = true then Oper.wp Tryz.prog o a w K Q else E' := by
  have hw : Region.wanted o (yielded ops a.tmps) = true := by simp [Region.wanted, hgd]
  rw [if_pos hw]
  subst hnD
  obtain ⟨i0, hi, hz0, hz1, hz2⟩ := info_parts infoKon
  refine wp_append_own w s x 33 ho base 43 i0 _ 9 88 Tryz.underlying33 hi hz0 hz1 hz2 rfl (by decide) v E.length (flatC konC E) hs hown ad D.length c (flatC konC D) hx (flat_len konC_size D) (StrAt.flat konC_size hD) (flat_one konC_one D) ?_ ?_ hbase fun v' w' h2 h3 _ => h v' w' ?_ h3
  · unfold maxLen; omega
  · omega
  · unfold OwR
    rw [flat_app, List.length_append]
    exact h2

end Go.Proofs.YtajmkdbokdjmeaaGreat
/- The document: Insn: bases. -/
namespace Go.Proofs.YtajmkdbokdjmeaaGreat
open Go.RowKit
section
variable {p : Prg} {fn : Nat} {w : World} (a b c ww n : Int) (sign : ByteArray) (aa : Option Addr) (an ac : Nat) (args : List Int)
set_option maxRecDepth 100000 in
set_option maxHeartbeats 16000000 in
theorem rin_2 (hf : StrAt funC 5 w p.fa p.fns) (hs : SmallF p.fns) (hfn : fn < p.fns.length) :
    Calls Tryz.prog 21 #[prgV p, .int .i64 fn, insV ⟨2, a, b, c, ww, n, sign, aa, an, ac, args⟩] w (GenRet w (consI p.fns fn ⟨2, a, b, c, ww, n, sign, aa, an, ac, args⟩)) := by
  have HF := Lib.hid hf
  have HS := Lib.hid hs
  have HFN := Lib.hid hfn
  have HC := Lib.hid (show consI p.fns fn ⟨2, a, b, c, ww, n, sign, aa, an, ac, args⟩ = [baseK (wz (fstK p.fns fn + a)) b] from rfl)
  have hww : ((ww == 1) = true) ∨ ((ww == 1) = false ∧ (ww == 8) = true) ∨ ((ww == 1) = false ∧ (ww == 8) = false) := by
    cases (ww == 1) <;> cases (ww == 8) <;> simp
  clear hf hs 
  unfold prgV insV prgC insC
  go_enter Tryz.func21, Tryz.ntmps21
  go_wp2_with fail
  refine (show Calls Tryz.prog 19 #[.agg #[.slice p.sa p.sites.length p.sc, .slice p.fa p.fns.length p.fc, .int .i64 p.main], .int .i64 fn] _ _ from First_any p _ (HF.out.keep (CellsK.of (gr_alloc (gr_alloc (grownBy_refl w none) _) _))) HS.out fn (Nat.le_of_lt hfn)).mono ?_
  rintro e w1 ⟨rfl, hg1⟩
  have HG1 := Lib.hid (grownBy_trans (gr_alloc (gr_alloc (grownBy_refl w none) (.cells (prgC p) 25)) (.cells (insC ⟨2, a, b, c, ww, n, sign, aa, an, ac, args⟩) 36)) hg1)
  have HB1 := Lib.hid (show BoxC (prgC p) 25 w.heap.size w1 from ((BoxC.new w (prgC p) 25).gr (gr_alloc (grownBy_refl _ _) _)).gr hg1)
  have HI1 := Lib.hid (show BoxC (insC ⟨2, a, b, c, ww, n, sign, aa, an, ac, args⟩) 36 (w.heap.size + 1) w1 from BoxC.gr (show BoxC (insC ⟨2, a, b, c, ww, n, sign, aa, an, ac, args⟩) 36 (w.heap.size + 1) ((w.alloc (.cells (prgC p) 25)).alloc (.cells (insC ⟨2, a, b, c, ww, n, sign, aa, an, ac, args⟩) 36)) from alloc_at (by simp)) hg1)
  obtain ⟨b0, b1, b2⟩ := boxP HB1.out
  obtain ⟨i0, i1, i2, i3, i4, i5, i6, i7⟩ := boxI HI1.out
  have lb := lt_of_heap HB1.out
  have li := lt_of_heap HI1.out
  clear hg1
  obtain ⟨va, hva⟩ : ∃ z, IntKind.i64.wrap (fstK p.fns fn + a) = z := ⟨_, rfl⟩
  obtain ⟨vb, hvb⟩ : ∃ z, IntKind.i64.wrap (fstK p.fns fn + b) = z := ⟨_, rfl⟩
  obtain ⟨vc, hvc⟩ : ∃ z, IntKind.i64.wrap (fstK p.fns fn + c) = z := ⟨_, rfl⟩
  have HVA := Lib.hid (show wz (fstK p.fns fn + a) = va from hva)
  have HVB := Lib.hid (show wz (fstK p.fns fn + b) = vb from hvb)
  have HVC := Lib.hid (show wz (fstK p.fns fn + c) = vc from hvc)
  generalize fstK p.fns fn = s at *
  rcases hww with e1 | ⟨e1, e8⟩ | ⟨e1, e8⟩
  all_goals
    go_wp2_with fail
    go_ret
    exact ⟨_, _, [baseK va b], rfl, (fun h => by cases h), one_kon (heap_alloc_new _ _), .of, by rw [HC.out, HVA.out]; rfl, gr_alloc HG1.out _, fun ad h => by injection h with h; subst h; exact HG1.out.size⟩
set_option maxRecDepth 100000 in
set_option maxHeartbeats 16000000 in
theorem rin_13 (hf : StrAt funC 5 w p.fa p.fns) (hs : SmallF p.fns) (hfn : fn < p.fns.length) :
    Calls Tryz.prog 21 #[prgV p, .int .i64 fn, insV ⟨13, a, b, c, ww, n, sign, aa, an, ac, args⟩] w (GenRet w (consI p.fns fn ⟨13, a, b, c, ww, n, sign, aa, an, ac, args⟩)) := by
  have HF := Lib.hid hf
  have HS := Lib.hid hs
  have HFN := Lib.hid hfn
  have HC := Lib.hid (show consI p.fns fn ⟨13, a, b, c, ww, n, sign, aa, an, ac, args⟩ = [baseK (wz (fstK p.fns fn + a)) n] from rfl)
  have hww : ((ww == 1) = true) ∨ ((ww == 1) = false ∧ (ww == 8) = true) ∨ ((ww == 1) = false ∧ (ww == 8) = false) := by
    cases (ww == 1) <;> cases (ww == 8) <;> simp
  clear hf hs 
  unfold prgV insV prgC insC
  go_enter Tryz.func21, Tryz.ntmps21
  go_wp2_with fail
  refine (show Calls Tryz.prog 19 #[.agg #[.slice p.sa p.sites.length p.sc, .slice p.fa p.fns.length p.fc, .int .i64 p.main], .int .i64 fn] _ _ from First_any p _ (HF.out.keep (CellsK.of (gr_alloc (gr_alloc (grownBy_refl w none) _) _))) HS.out fn (Nat.le_of_lt hfn)).mono ?_
  rintro e w1 ⟨rfl, hg1⟩
  have HG1 := Lib.hid (grownBy_trans (gr_alloc (gr_alloc (grownBy_refl w none) (.cells (prgC p) 25)) (.cells (insC ⟨13, a, b, c, ww, n, sign, aa, an, ac, args⟩) 36)) hg1)
  have HB1 := Lib.hid (show BoxC (prgC p) 25 w.heap.size w1 from ((BoxC.new w (prgC p) 25).gr (gr_alloc (grownBy_refl _ _) _)).gr hg1)
  have HI1 := Lib.hid (show BoxC (insC ⟨13, a, b, c, ww, n, sign, aa, an, ac, args⟩) 36 (w.heap.size + 1) w1 from BoxC.gr (show BoxC (insC ⟨13, a, b, c, ww, n, sign, aa, an, ac, args⟩) 36 (w.heap.size + 1) ((w.alloc (.cells (prgC p) 25)).alloc (.cells (insC ⟨13, a, b, c, ww, n, sign, aa, an, ac, args⟩) 36)) from alloc_at (by simp)) hg1)
  obtain ⟨b0, b1, b2⟩ := boxP HB1.out
  obtain ⟨i0, i1, i2, i3, i4, i5, i6, i7⟩ := boxI HI1.out
  have lb := lt_of_heap HB1.out
  have li := lt_of_heap HI1.out
  clear hg1
  obtain ⟨va, hva⟩ : ∃ z, IntKind.i64.wrap (fstK p.fns fn + a) = z := ⟨_, rfl⟩
  obtain ⟨vb, hvb⟩ : ∃ z, IntKind.i64.wrap (fstK p.fns fn + b) = z := ⟨_, rfl⟩
  obtain ⟨vc, hvc⟩ : ∃ z, IntKind.i64.wrap (fstK p.fns fn + c) = z := ⟨_, rfl⟩
  have HVA := Lib.hid (show wz (fstK p.fns fn + a) = va from hva)
  have HVB := Lib.hid (show wz (fstK p.fns fn + b) = vb from hvb)
  have HVC := Lib.hid (show wz (fstK p.fns fn + c) = vc from hvc)
  generalize fstK p.fns fn = s at *
  rcases hww with e1 | ⟨e1, e8⟩ | ⟨e1, e8⟩
  all_goals
    go_wp2_with fail
    go_ret
    exact ⟨_, _, [baseK va n], rfl, (fun h => by cases h), one_kon (heap_alloc_new _ _), .of, by rw [HC.out, HVA.out]; rfl, gr_alloc HG1.out _, fun ad h => by injection h with h; subst h; exact HG1.out.size⟩
end

end Go.Proofs.YtajmkdbokdjmeaaGreat
/- The document: Insn: moves. -/
namespace Go.Proofs.YtajmkdbokdjmeaaGreat
open Go.RowKit
section
variable {p : Prg} {fn : Nat} {w : World} (a b c ww n : Int) (sign : ByteArray) (aa : Option Addr) (an ac : Nat) (args : List Int)
set_option maxRecDepth 100000 in
set_option maxHeartbeats 16000000 in
theorem rin_10 (hf : StrAt funC 5 w p.fa p.fns) (hs : SmallF p.fns) (hfn : fn < p.fns.length) :
    Calls Tryz.prog 21 #[prgV p, .int .i64 fn, insV ⟨10, a, b, c, ww, n, sign, aa, an, ac, args⟩] w (GenRet w (consI p.fns fn ⟨10, a, b, c, ww, n, sign, aa, an, ac, args⟩)) := by
  have HF := Lib.hid hf
  have HS := Lib.hid hs
  have HFN := Lib.hid hfn
  have HC := Lib.hid (show consI p.fns fn ⟨10, a, b, c, ww, n, sign, aa, an, ac, args⟩ = [twoK 7 (wz (fstK p.fns fn + a)) (wz (fstK p.fns fn + b)) n] from rfl)
  have hww : ((ww == 1) = true) ∨ ((ww == 1) = false ∧ (ww == 8) = true) ∨ ((ww == 1) = false ∧ (ww == 8) = false) := by
    cases (ww == 1) <;> cases (ww == 8) <;> simp
  clear hf hs 
  unfold prgV insV prgC insC
  go_enter Tryz.func21, Tryz.ntmps21
  go_wp2_with fail
  refine (show Calls Tryz.prog 19 #[.agg #[.slice p.sa p.sites.length p.sc, .slice p.fa p.fns.length p.fc, .int .i64 p.main], .int .i64 fn] _ _ from First_any p _ (HF.out.keep (CellsK.of (gr_alloc (gr_alloc (grownBy_refl w none) _) _))) HS.out fn (Nat.le_of_lt hfn)).mono ?_
  rintro e w1 ⟨rfl, hg1⟩
  have HG1 := Lib.hid (grownBy_trans (gr_alloc (gr_alloc (grownBy_refl w none) (.cells (prgC p) 25)) (.cells (insC ⟨10, a, b, c, ww, n, sign, aa, an, ac, args⟩) 36)) hg1)
  have HB1 := Lib.hid (show BoxC (prgC p) 25 w.heap.size w1 from ((BoxC.new w (prgC p) 25).gr (gr_alloc (grownBy_refl _ _) _)).gr hg1)
  have HI1 := Lib.hid (show BoxC (insC ⟨10, a, b, c, ww, n, sign, aa, an, ac, args⟩) 36 (w.heap.size + 1) w1 from BoxC.gr (show BoxC (insC ⟨10, a, b, c, ww, n, sign, aa, an, ac, args⟩) 36 (w.heap.size + 1) ((w.alloc (.cells (prgC p) 25)).alloc (.cells (insC ⟨10, a, b, c, ww, n, sign, aa, an, ac, args⟩) 36)) from alloc_at (by simp)) hg1)
  obtain ⟨b0, b1, b2⟩ := boxP HB1.out
  obtain ⟨i0, i1, i2, i3, i4, i5, i6, i7⟩ := boxI HI1.out
  have lb := lt_of_heap HB1.out
  have li := lt_of_heap HI1.out
  clear hg1
  obtain ⟨va, hva⟩ : ∃ z, IntKind.i64.wrap (fstK p.fns fn + a) = z := ⟨_, rfl⟩
  obtain ⟨vb, hvb⟩ : ∃ z, IntKind.i64.wrap (fstK p.fns fn + b) = z := ⟨_, rfl⟩
  obtain ⟨vc, hvc⟩ : ∃ z, IntKind.i64.wrap (fstK p.fns fn + c) = z := ⟨_, rfl⟩
  have HVA := Lib.hid (show wz (fstK p.fns fn + a) = va from hva)
  have HVB := Lib.hid (show wz (fstK p.fns fn + b) = vb from hvb)
  have HVC := Lib.hid (show wz (fstK p.fns fn + c) = vc from hvc)
  generalize fstK p.fns fn = s at *
  rcases hww with e1 | ⟨e1, e8⟩ | ⟨e1, e8⟩
  all_goals
    go_wp2_with fail
    refine (two_any _ _ _ _ _).mono ?_
    rintro e w3 ⟨rfl, ho3, hg3⟩
    have HO3 := Lib.hid ho3
    have HG3 := Lib.hid (grownBy_trans HG1.out hg3)
    clear ho3 hg3
    go_wp2_with fail
    go_ret
    exact ⟨_, _, [twoK 7 va vb n], rfl, (fun h => by cases h), StrAt.of_own konC_size HO3.out, .of, by rw [HC.out, HVA.out, HVB.out]; rfl, HG3.out, fun ad h => by injection h with h; subst h; exact HG1.out.size⟩
set_option maxRecDepth 100000 in
set_option maxHeartbeats 16000000 in
theorem rin_11 (hf : StrAt funC 5 w p.fa p.fns) (hs : SmallF p.fns) (hfn : fn < p.fns.length) :
    Calls Tryz.prog 21 #[prgV p, .int .i64 fn, insV ⟨11, a, b, c, ww, n, sign, aa, an, ac, args⟩] w (GenRet w (consI p.fns fn ⟨11, a, b, c, ww, n, sign, aa, an, ac, args⟩)) := by
  have HF := Lib.hid hf
  have HS := Lib.hid hs
  have HFN := Lib.hid hfn
  have HC := Lib.hid (show consI p.fns fn ⟨11, a, b, c, ww, n, sign, aa, an, ac, args⟩ = [twoK 7 (wz (fstK p.fns fn + a)) (wz (fstK p.fns fn + b)) (-1)] from rfl)
  have hww : ((ww == 1) = true) ∨ ((ww == 1) = false ∧ (ww == 8) = true) ∨ ((ww == 1) = false ∧ (ww == 8) = false) := by
    cases (ww == 1) <;> cases (ww == 8) <;> simp
  clear hf hs 
  unfold prgV insV prgC insC
  go_enter Tryz.func21, Tryz.ntmps21
  go_wp2_with fail
  refine (show Calls Tryz.prog 19 #[.agg #[.slice p.sa p.sites.length p.sc, .slice p.fa p.fns.length p.fc, .int .i64 p.main], .int .i64 fn] _ _ from First_any p _ (HF.out.keep (CellsK.of (gr_alloc (gr_alloc (grownBy_refl w none) _) _))) HS.out fn (Nat.le_of_lt hfn)).mono ?_
  rintro e w1 ⟨rfl, hg1⟩
  have HG1 := Lib.hid (grownBy_trans (gr_alloc (gr_alloc (grownBy_refl w none) (.cells (prgC p) 25)) (.cells (insC ⟨11, a, b, c, ww, n, sign, aa, an, ac, args⟩) 36)) hg1)
  have HB1 := Lib.hid (show BoxC (prgC p) 25 w.heap.size w1 from ((BoxC.new w (prgC p) 25).gr (gr_alloc (grownBy_refl _ _) _)).gr hg1)
  have HI1 := Lib.hid (show BoxC (insC ⟨11, a, b, c, ww, n, sign, aa, an, ac, args⟩) 36 (w.heap.size + 1) w1 from BoxC.gr (show BoxC (insC ⟨11, a, b, c, ww, n, sign, aa, an, ac, args⟩) 36 (w.heap.size + 1) ((w.alloc (.cells (prgC p) 25)).alloc (.cells (insC ⟨11, a, b, c, ww, n, sign, aa, an, ac, args⟩) 36)) from alloc_at (by simp)) hg1)
  obtain ⟨b0, b1, b2⟩ := boxP HB1.out
  obtain ⟨i0, i1, i2, i3, i4, i5, i6, i7⟩ := boxI HI1.out
  have lb := lt_of_heap HB1.out
  have li := lt_of_heap HI1.out
  clear hg1
  obtain ⟨va, hva⟩ : ∃ z, IntKind.i64.wrap (fstK p.fns fn + a) = z := ⟨_, rfl⟩
  obtain ⟨vb, hvb⟩ : ∃ z, IntKind.i64.wrap (fstK p.fns fn + b) = z := ⟨_, rfl⟩
  obtain ⟨vc, hvc⟩ : ∃ z, IntKind.i64.wrap (fstK p.fns fn + c) = z := ⟨_, rfl⟩
  have HVA := Lib.hid (show wz (fstK p.fns fn + a) = va from hva)
  have HVB := Lib.hid (show wz (fstK p.fns fn + b) = vb from hvb)
  have HVC := Lib.hid (show wz (fstK p.fns fn + c) = vc from hvc)
  generalize fstK p.fns fn = s at *
  rcases hww with e1 | ⟨e1, e8⟩ | ⟨e1, e8⟩
  all_goals
    go_wp2_with fail
    refine (two_any _ _ _ _ _).mono ?_
    rintro e w3 ⟨rfl, ho3, hg3⟩
    have HO3 := Lib.hid ho3
    have HG3 := Lib.hid (grownBy_trans HG1.out hg3)
    clear ho3 hg3
    go_wp2_with fail
    go_ret
    exact ⟨_, _, [twoK 7 va vb (-1)], rfl, (fun h => by cases h), StrAt.of_own konC_size HO3.out, .of, by rw [HC.out, HVA.out, HVB.out]; rfl, HG3.out, fun ad h => by injection h with h; subst h; exact HG1.out.size⟩
end

end Go.Proofs.YtajmkdbokdjmeaaGreat
/- The document: Insn: sums. -/
namespace Go.Proofs.YtajmkdbokdjmeaaGreat
open Go.RowKit
section
variable {p : Prg} {fn : Nat} {w : World} (a b c ww n : Int) (sign : ByteArray) (aa : Option Addr) (an ac : Nat) (args : List Int)
set_option maxRecDepth 100000 in
set_option maxHeartbeats 16000000 in
theorem rin_3y (hf : StrAt funC 5 w p.fa p.fns) (hs : SmallF p.fns) (hfn : fn < p.fns.length) (h1 : -4096 ≤ n ∧ n ≤ 4096) :
    Calls Tryz.prog 21 #[prgV p, .int .i64 fn, insV ⟨3, a, b, c, ww, n, sign, aa, an, ac, args⟩] w (GenRet w (consI p.fns fn ⟨3, a, b, c, ww, n, sign, aa, an, ac, args⟩)) := by
  have d1 : decide ((-4096 : Int) ≤ n) = true := by simp; omega
  have d2 : decide (n ≤ 4096) = true := by simp; omega
  have HF := Lib.hid hf
  have HS := Lib.hid hs
  have HFN := Lib.hid hfn
  have HC := Lib.hid (show consI p.fns fn ⟨3, a, b, c, ww, n, sign, aa, an, ac, args⟩ = [twoK 3 (wz (fstK p.fns fn + a)) (wz (fstK p.fns fn + b)) n] from (if_pos h1 : (if -4096 ≤ n ∧ n ≤ 4096 then [twoK 3 (wz (fstK p.fns fn + a)) (wz (fstK p.fns fn + b)) n] else []) = _))
  have hww : ((ww == 1) = true) ∨ ((ww == 1) = false ∧ (ww == 8) = true) ∨ ((ww == 1) = false ∧ (ww == 8) = false) := by
    cases (ww == 1) <;> cases (ww == 8) <;> simp
  clear hf hs h1
  unfold prgV insV prgC insC
  go_enter Tryz.func21, Tryz.ntmps21
  go_wp2_with fail
  refine (show Calls Tryz.prog 19 #[.agg #[.slice p.sa p.sites.length p.sc, .slice p.fa p.fns.length p.fc, .int .i64 p.main], .int .i64 fn] _ _ from First_any p _ (HF.out.keep (CellsK.of (gr_alloc (gr_alloc (grownBy_refl w none) _) _))) HS.out fn (Nat.le_of_lt hfn)).mono ?_
  rintro e w1 ⟨rfl, hg1⟩
  have HG1 := Lib.hid (grownBy_trans (gr_alloc (gr_alloc (grownBy_refl w none) (.cells (prgC p) 25)) (.cells (insC ⟨3, a, b, c, ww, n, sign, aa, an, ac, args⟩) 36)) hg1)
  have HB1 := Lib.hid (show BoxC (prgC p) 25 w.heap.size w1 from ((BoxC.new w (prgC p) 25).gr (gr_alloc (grownBy_refl _ _) _)).gr hg1)
  have HI1 := Lib.hid (show BoxC (insC ⟨3, a, b, c, ww, n, sign, aa, an, ac, args⟩) 36 (w.heap.size + 1) w1 from BoxC.gr (show BoxC (insC ⟨3, a, b, c, ww, n, sign, aa, an, ac, args⟩) 36 (w.heap.size + 1) ((w.alloc (.cells (prgC p) 25)).alloc (.cells (insC ⟨3, a, b, c, ww, n, sign, aa, an, ac, args⟩) 36)) from alloc_at (by simp)) hg1)
  obtain ⟨b0, b1, b2⟩ := boxP HB1.out
  obtain ⟨i0, i1, i2, i3, i4, i5, i6, i7⟩ := boxI HI1.out
  have lb := lt_of_heap HB1.out
  have li := lt_of_heap HI1.out
  clear hg1
  obtain ⟨va, hva⟩ : ∃ z, IntKind.i64.wrap (fstK p.fns fn + a) = z := ⟨_, rfl⟩
  obtain ⟨vb, hvb⟩ : ∃ z, IntKind.i64.wrap (fstK p.fns fn + b) = z := ⟨_, rfl⟩
  obtain ⟨vc, hvc⟩ : ∃ z, IntKind.i64.wrap (fstK p.fns fn + c) = z := ⟨_, rfl⟩
  have HVA := Lib.hid (show wz (fstK p.fns fn + a) = va from hva)
  have HVB := Lib.hid (show wz (fstK p.fns fn + b) = vb from hvb)
  have HVC := Lib.hid (show wz (fstK p.fns fn + c) = vc from hvc)
  generalize fstK p.fns fn = s at *
  rcases hww with e1 | ⟨e1, e8⟩ | ⟨e1, e8⟩
  all_goals
    go_wp2_with fail
    refine (two_any _ _ _ _ _).mono ?_
    rintro e w3 ⟨rfl, ho3, hg3⟩
    have HO3 := Lib.hid ho3
    have HG3 := Lib.hid (grownBy_trans HG1.out hg3)
    clear ho3 hg3
    go_wp2_with fail
    go_ret
    exact ⟨_, _, [twoK 3 va vb n], rfl, (fun h => by cases h), StrAt.of_own konC_size HO3.out, .of, by rw [HC.out, HVA.out, HVB.out]; rfl, HG3.out, fun ad h => by injection h with h; subst h; exact HG1.out.size⟩
set_option maxRecDepth 100000 in
set_option maxHeartbeats 16000000 in
theorem rin_3l (hf : StrAt funC 5 w p.fa p.fns) (hs : SmallF p.fns) (hfn : fn < p.fns.length) (h1 : n < -4096) :
    Calls Tryz.prog 21 #[prgV p, .int .i64 fn, insV ⟨3, a, b, c, ww, n, sign, aa, an, ac, args⟩] w (GenRet w (consI p.fns fn ⟨3, a, b, c, ww, n, sign, aa, an, ac, args⟩)) := by
  have d1 : decide ((-4096 : Int) ≤ n) = false := by simp; omega
  have HF := Lib.hid hf
  have HS := Lib.hid hs
  have HFN := Lib.hid hfn
  have HC := Lib.hid (show consI p.fns fn ⟨3, a, b, c, ww, n, sign, aa, an, ac, args⟩ = [] from (if_neg (by omega) : (if -4096 ≤ n ∧ n ≤ 4096 then [twoK 3 (wz (fstK p.fns fn + a)) (wz (fstK p.fns fn + b)) n] else []) = _))
  have hww : ((ww == 1) = true) ∨ ((ww == 1) = false ∧ (ww == 8) = true) ∨ ((ww == 1) = false ∧ (ww == 8) = false) := by
    cases (ww == 1) <;> cases (ww == 8) <;> simp
  clear hf hs h1
  unfold prgV insV prgC insC
  go_enter Tryz.func21, Tryz.ntmps21
  go_wp2_with fail
  refine (show Calls Tryz.prog 19 #[.agg #[.slice p.sa p.sites.length p.sc, .slice p.fa p.fns.length p.fc, .int .i64 p.main], .int .i64 fn] _ _ from First_any p _ (HF.out.keep (CellsK.of (gr_alloc (gr_alloc (grownBy_refl w none) _) _))) HS.out fn (Nat.le_of_lt hfn)).mono ?_
  rintro e w1 ⟨rfl, hg1⟩
  have HG1 := Lib.hid (grownBy_trans (gr_alloc (gr_alloc (grownBy_refl w none) (.cells (prgC p) 25)) (.cells (insC ⟨3, a, b, c, ww, n, sign, aa, an, ac, args⟩) 36)) hg1)
  have HB1 := Lib.hid (show BoxC (prgC p) 25 w.heap.size w1 from ((BoxC.new w (prgC p) 25).gr (gr_alloc (grownBy_refl _ _) _)).gr hg1)
  have HI1 := Lib.hid (show BoxC (insC ⟨3, a, b, c, ww, n, sign, aa, an, ac, args⟩) 36 (w.heap.size + 1) w1 from BoxC.gr (show BoxC (insC ⟨3, a, b, c, ww, n, sign, aa, an, ac, args⟩) 36 (w.heap.size + 1) ((w.alloc (.cells (prgC p) 25)).alloc (.cells (insC ⟨3, a, b, c, ww, n, sign, aa, an, ac, args⟩) 36)) from alloc_at (by simp)) hg1)
  obtain ⟨b0, b1, b2⟩ := boxP HB1.out
  obtain ⟨i0, i1, i2, i3, i4, i5, i6, i7⟩ := boxI HI1.out
  have lb := lt_of_heap HB1.out
  have li := lt_of_heap HI1.out
  clear hg1
  obtain ⟨va, hva⟩ : ∃ z, IntKind.i64.wrap (fstK p.fns fn + a) = z := ⟨_, rfl⟩
  obtain ⟨vb, hvb⟩ : ∃ z, IntKind.i64.wrap (fstK p.fns fn + b) = z := ⟨_, rfl⟩
  obtain ⟨vc, hvc⟩ : ∃ z, IntKind.i64.wrap (fstK p.fns fn + c) = z := ⟨_, rfl⟩
  have HVA := Lib.hid (show wz (fstK p.fns fn + a) = va from hva)
  have HVB := Lib.hid (show wz (fstK p.fns fn + b) = vb from hvb)
  have HVC := Lib.hid (show wz (fstK p.fns fn + c) = vc from hvc)
  generalize fstK p.fns fn = s at *
  rcases hww with e1 | ⟨e1, e8⟩ | ⟨e1, e8⟩
  all_goals
    go_wp2_with fail
    go_ret
    exact ⟨none, 0, [], rfl, (fun _ => rfl), .inl rfl, .nil _, HC.out.symm, HG1.out, fun _ h => by cases h⟩
set_option maxRecDepth 100000 in
set_option maxHeartbeats 16000000 in
theorem rin_3h (hf : StrAt funC 5 w p.fa p.fns) (hs : SmallF p.fns) (hfn : fn < p.fns.length) (h1 : -4096 ≤ n) (h2 : 4096 < n) :
    Calls Tryz.prog 21 #[prgV p, .int .i64 fn, insV ⟨3, a, b, c, ww, n, sign, aa, an, ac, args⟩] w (GenRet w (consI p.fns fn ⟨3, a, b, c, ww, n, sign, aa, an, ac, args⟩)) := by
  have d1 : decide ((-4096 : Int) ≤ n) = true := by simp; omega
  have d2 : decide (n ≤ 4096) = false := by simp; omega
  have HF := Lib.hid hf
  have HS := Lib.hid hs
  have HFN := Lib.hid hfn
  have HC := Lib.hid (show consI p.fns fn ⟨3, a, b, c, ww, n, sign, aa, an, ac, args⟩ = [] from (if_neg (by omega) : (if -4096 ≤ n ∧ n ≤ 4096 then [twoK 3 (wz (fstK p.fns fn + a)) (wz (fstK p.fns fn + b)) n] else []) = _))
  have hww : ((ww == 1) = true) ∨ ((ww == 1) = false ∧ (ww == 8) = true) ∨ ((ww == 1) = false ∧ (ww == 8) = false) := by
    cases (ww == 1) <;> cases (ww == 8) <;> simp
  clear hf hs h1 h2
  unfold prgV insV prgC insC
  go_enter Tryz.func21, Tryz.ntmps21
  go_wp2_with fail
  refine (show Calls Tryz.prog 19 #[.agg #[.slice p.sa p.sites.length p.sc, .slice p.fa p.fns.length p.fc, .int .i64 p.main], .int .i64 fn] _ _ from First_any p _ (HF.out.keep (CellsK.of (gr_alloc (gr_alloc (grownBy_refl w none) _) _))) HS.out fn (Nat.le_of_lt hfn)).mono ?_
  rintro e w1 ⟨rfl, hg1⟩
  have HG1 := Lib.hid (grownBy_trans (gr_alloc (gr_alloc (grownBy_refl w none) (.cells (prgC p) 25)) (.cells (insC ⟨3, a, b, c, ww, n, sign, aa, an, ac, args⟩) 36)) hg1)
  have HB1 := Lib.hid (show BoxC (prgC p) 25 w.heap.size w1 from ((BoxC.new w (prgC p) 25).gr (gr_alloc (grownBy_refl _ _) _)).gr hg1)
  have HI1 := Lib.hid (show BoxC (insC ⟨3, a, b, c, ww, n, sign, aa, an, ac, args⟩) 36 (w.heap.size + 1) w1 from BoxC.gr (show BoxC (insC ⟨3, a, b, c, ww, n, sign, aa, an, ac, args⟩) 36 (w.heap.size + 1) ((w.alloc (.cells (prgC p) 25)).alloc (.cells (insC ⟨3, a, b, c, ww, n, sign, aa, an, ac, args⟩) 36)) from alloc_at (by simp)) hg1)
  obtain ⟨b0, b1, b2⟩ := boxP HB1.out
  obtain ⟨i0, i1, i2, i3, i4, i5, i6, i7⟩ := boxI HI1.out
  have lb := lt_of_heap HB1.out
  have li := lt_of_heap HI1.out
  clear hg1
  obtain ⟨va, hva⟩ : ∃ z, IntKind.i64.wrap (fstK p.fns fn + a) = z := ⟨_, rfl⟩
  obtain ⟨vb, hvb⟩ : ∃ z, IntKind.i64.wrap (fstK p.fns fn + b) = z := ⟨_, rfl⟩
  obtain ⟨vc, hvc⟩ : ∃ z, IntKind.i64.wrap (fstK p.fns fn + c) = z := ⟨_, rfl⟩
  have HVA := Lib.hid (show wz (fstK p.fns fn + a) = va from hva)
  have HVB := Lib.hid (show wz (fstK p.fns fn + b) = vb from hvb)
  have HVC := Lib.hid (show wz (fstK p.fns fn + c) = vc from hvc)
  generalize fstK p.fns fn = s at *
  rcases hww with e1 | ⟨e1, e8⟩ | ⟨e1, e8⟩
  all_goals
    go_wp2_with fail
    go_ret
    exact ⟨none, 0, [], rfl, (fun _ => rfl), .inl rfl, .nil _, HC.out.symm, HG1.out, fun _ h => by cases h⟩
end

end Go.Proofs.YtajmkdbokdjmeaaGreat
/- The document: Insn: sums. -/
namespace Go.Proofs.YtajmkdbokdjmeaaGreat
open Go.RowKit
section
variable {p : Prg} {fn : Nat} {w : World} (a b c ww n : Int) (sign : ByteArray) (aa : Option Addr) (an ac : Nat) (args : List Int)
set_option maxRecDepth 100000 in
set_option maxHeartbeats 16000000 in
theorem rin_4y (hf : StrAt funC 5 w p.fa p.fns) (hs : SmallF p.fns) (hfn : fn < p.fns.length) (h1 : 0 ≤ n ∧ n ≤ 4096) :
    Calls Tryz.prog 21 #[prgV p, .int .i64 fn, insV ⟨4, a, b, c, ww, n, sign, aa, an, ac, args⟩] w (GenRet w (consI p.fns fn ⟨4, a, b, c, ww, n, sign, aa, an, ac, args⟩)) := by
  have d1 : decide ((0 : Int) ≤ n) = true := by simp; omega
  have d2 : decide (n ≤ 4096) = true := by simp; omega
  have HF := Lib.hid hf
  have HS := Lib.hid hs
  have HFN := Lib.hid hfn
  have HC := Lib.hid (show consI p.fns fn ⟨4, a, b, c, ww, n, sign, aa, an, ac, args⟩ = [twoK 4 (wz (fstK p.fns fn + a)) (wz (fstK p.fns fn + b)) n] from (if_pos h1 : (if 0 ≤ n ∧ n ≤ 4096 then [twoK 4 (wz (fstK p.fns fn + a)) (wz (fstK p.fns fn + b)) n] else []) = _))
  have hww : ((ww == 1) = true) ∨ ((ww == 1) = false ∧ (ww == 8) = true) ∨ ((ww == 1) = false ∧ (ww == 8) = false) := by
    cases (ww == 1) <;> cases (ww == 8) <;> simp
  clear hf hs h1
  unfold prgV insV prgC insC
  go_enter Tryz.func21, Tryz.ntmps21
  go_wp2_with fail
  refine (show Calls Tryz.prog 19 #[.agg #[.slice p.sa p.sites.length p.sc, .slice p.fa p.fns.length p.fc, .int .i64 p.main], .int .i64 fn] _ _ from First_any p _ (HF.out.keep (CellsK.of (gr_alloc (gr_alloc (grownBy_refl w none) _) _))) HS.out fn (Nat.le_of_lt hfn)).mono ?_
  rintro e w1 ⟨rfl, hg1⟩
  have HG1 := Lib.hid (grownBy_trans (gr_alloc (gr_alloc (grownBy_refl w none) (.cells (prgC p) 25)) (.cells (insC ⟨4, a, b, c, ww, n, sign, aa, an, ac, args⟩) 36)) hg1)
  have HB1 := Lib.hid (show BoxC (prgC p) 25 w.heap.size w1 from ((BoxC.new w (prgC p) 25).gr (gr_alloc (grownBy_refl _ _) _)).gr hg1)
  have HI1 := Lib.hid (show BoxC (insC ⟨4, a, b, c, ww, n, sign, aa, an, ac, args⟩) 36 (w.heap.size + 1) w1 from BoxC.gr (show BoxC (insC ⟨4, a, b, c, ww, n, sign, aa, an, ac, args⟩) 36 (w.heap.size + 1) ((w.alloc (.cells (prgC p) 25)).alloc (.cells (insC ⟨4, a, b, c, ww, n, sign, aa, an, ac, args⟩) 36)) from alloc_at (by simp)) hg1)
  obtain ⟨b0, b1, b2⟩ := boxP HB1.out
  obtain ⟨i0, i1, i2, i3, i4, i5, i6, i7⟩ := boxI HI1.out
  have lb := lt_of_heap HB1.out
  have li := lt_of_heap HI1.out
  clear hg1
  obtain ⟨va, hva⟩ : ∃ z, IntKind.i64.wrap (fstK p.fns fn + a) = z := ⟨_, rfl⟩
  obtain ⟨vb, hvb⟩ : ∃ z, IntKind.i64.wrap (fstK p.fns fn + b) = z := ⟨_, rfl⟩
  obtain ⟨vc, hvc⟩ : ∃ z, IntKind.i64.wrap (fstK p.fns fn + c) = z := ⟨_, rfl⟩
  have HVA := Lib.hid (show wz (fstK p.fns fn + a) = va from hva)
  have HVB := Lib.hid (show wz (fstK p.fns fn + b) = vb from hvb)
  have HVC := Lib.hid (show wz (fstK p.fns fn + c) = vc from hvc)
  generalize fstK p.fns fn = s at *
  rcases hww with e1 | ⟨e1, e8⟩ | ⟨e1, e8⟩
  all_goals
    go_wp2_with fail
    refine (two_any _ _ _ _ _).mono ?_
    rintro e w3 ⟨rfl, ho3, hg3⟩
    have HO3 := Lib.hid ho3
    have HG3 := Lib.hid (grownBy_trans HG1.out hg3)
    clear ho3 hg3
    go_wp2_with fail
    go_ret
    exact ⟨_, _, [twoK 4 va vb n], rfl, (fun h => by cases h), StrAt.of_own konC_size HO3.out, .of, by rw [HC.out, HVA.out, HVB.out]; rfl, HG3.out, fun ad h => by injection h with h; subst h; exact HG1.out.size⟩
set_option maxRecDepth 100000 in
set_option maxHeartbeats 16000000 in
theorem rin_4l (hf : StrAt funC 5 w p.fa p.fns) (hs : SmallF p.fns) (hfn : fn < p.fns.length) (h1 : n < 0) :
    Calls Tryz.prog 21 #[prgV p, .int .i64 fn, insV ⟨4, a, b, c, ww, n, sign, aa, an, ac, args⟩] w (GenRet w (consI p.fns fn ⟨4, a, b, c, ww, n, sign, aa, an, ac, args⟩)) := by
  have d1 : decide ((0 : Int) ≤ n) = false := by simp; omega
  have HF := Lib.hid hf
  have HS := Lib.hid hs
  have HFN := Lib.hid hfn
  have HC := Lib.hid (show consI p.fns fn ⟨4, a, b, c, ww, n, sign, aa, an, ac, args⟩ = [] from (if_neg (by omega) : (if 0 ≤ n ∧ n ≤ 4096 then [twoK 4 (wz (fstK p.fns fn + a)) (wz (fstK p.fns fn + b)) n] else []) = _))
  have hww : ((ww == 1) = true) ∨ ((ww == 1) = false ∧ (ww == 8) = true) ∨ ((ww == 1) = false ∧ (ww == 8) = false) := by
    cases (ww == 1) <;> cases (ww == 8) <;> simp
  clear hf hs h1
  unfold prgV insV prgC insC
  go_enter Tryz.func21, Tryz.ntmps21
  go_wp2_with fail
  refine (show Calls Tryz.prog 19 #[.agg #[.slice p.sa p.sites.length p.sc, .slice p.fa p.fns.length p.fc, .int .i64 p.main], .int .i64 fn] _ _ from First_any p _ (HF.out.keep (CellsK.of (gr_alloc (gr_alloc (grownBy_refl w none) _) _))) HS.out fn (Nat.le_of_lt hfn)).mono ?_
  rintro e w1 ⟨rfl, hg1⟩
  have HG1 := Lib.hid (grownBy_trans (gr_alloc (gr_alloc (grownBy_refl w none) (.cells (prgC p) 25)) (.cells (insC ⟨4, a, b, c, ww, n, sign, aa, an, ac, args⟩) 36)) hg1)
  have HB1 := Lib.hid (show BoxC (prgC p) 25 w.heap.size w1 from ((BoxC.new w (prgC p) 25).gr (gr_alloc (grownBy_refl _ _) _)).gr hg1)
  have HI1 := Lib.hid (show BoxC (insC ⟨4, a, b, c, ww, n, sign, aa, an, ac, args⟩) 36 (w.heap.size + 1) w1 from BoxC.gr (show BoxC (insC ⟨4, a, b, c, ww, n, sign, aa, an, ac, args⟩) 36 (w.heap.size + 1) ((w.alloc (.cells (prgC p) 25)).alloc (.cells (insC ⟨4, a, b, c, ww, n, sign, aa, an, ac, args⟩) 36)) from alloc_at (by simp)) hg1)
  obtain ⟨b0, b1, b2⟩ := boxP HB1.out
  obtain ⟨i0, i1, i2, i3, i4, i5, i6, i7⟩ := boxI HI1.out
  have lb := lt_of_heap HB1.out
  have li := lt_of_heap HI1.out
  clear hg1
  obtain ⟨va, hva⟩ : ∃ z, IntKind.i64.wrap (fstK p.fns fn + a) = z := ⟨_, rfl⟩
  obtain ⟨vb, hvb⟩ : ∃ z, IntKind.i64.wrap (fstK p.fns fn + b) = z := ⟨_, rfl⟩
  obtain ⟨vc, hvc⟩ : ∃ z, IntKind.i64.wrap (fstK p.fns fn + c) = z := ⟨_, rfl⟩
  have HVA := Lib.hid (show wz (fstK p.fns fn + a) = va from hva)
  have HVB := Lib.hid (show wz (fstK p.fns fn + b) = vb from hvb)
  have HVC := Lib.hid (show wz (fstK p.fns fn + c) = vc from hvc)
  generalize fstK p.fns fn = s at *
  rcases hww with e1 | ⟨e1, e8⟩ | ⟨e1, e8⟩
  all_goals
    go_wp2_with fail
    go_ret
    exact ⟨none, 0, [], rfl, (fun _ => rfl), .inl rfl, .nil _, HC.out.symm, HG1.out, fun _ h => by cases h⟩
set_option maxRecDepth 100000 in
set_option maxHeartbeats 16000000 in
theorem rin_4h (hf : StrAt funC 5 w p.fa p.fns) (hs : SmallF p.fns) (hfn : fn < p.fns.length) (h1 : 0 ≤ n) (h2 : 4096 < n) :
    Calls Tryz.prog 21 #[prgV p, .int .i64 fn, insV ⟨4, a, b, c, ww, n, sign, aa, an, ac, args⟩] w (GenRet w (consI p.fns fn ⟨4, a, b, c, ww, n, sign, aa, an, ac, args⟩)) := by
  have d1 : decide ((0 : Int) ≤ n) = true := by simp; omega
  have d2 : decide (n ≤ 4096) = false := by simp; omega
  have HF := Lib.hid hf
  have HS := Lib.hid hs
  have HFN := Lib.hid hfn
  have HC := Lib.hid (show consI p.fns fn ⟨4, a, b, c, ww, n, sign, aa, an, ac, args⟩ = [] from (if_neg (by omega) : (if 0 ≤ n ∧ n ≤ 4096 then [twoK 4 (wz (fstK p.fns fn + a)) (wz (fstK p.fns fn + b)) n] else []) = _))
  have hww : ((ww == 1) = true) ∨ ((ww == 1) = false ∧ (ww == 8) = true) ∨ ((ww == 1) = false ∧ (ww == 8) = false) := by
    cases (ww == 1) <;> cases (ww == 8) <;> simp
  clear hf hs h1 h2
  unfold prgV insV prgC insC
  go_enter Tryz.func21, Tryz.ntmps21
  go_wp2_with fail
  refine (show Calls Tryz.prog 19 #[.agg #[.slice p.sa p.sites.length p.sc, .slice p.fa p.fns.length p.fc, .int .i64 p.main], .int .i64 fn] _ _ from First_any p _ (HF.out.keep (CellsK.of (gr_alloc (gr_alloc (grownBy_refl w none) _) _))) HS.out fn (Nat.le_of_lt hfn)).mono ?_
  rintro e w1 ⟨rfl, hg1⟩
  have HG1 := Lib.hid (grownBy_trans (gr_alloc (gr_alloc (grownBy_refl w none) (.cells (prgC p) 25)) (.cells (insC ⟨4, a, b, c, ww, n, sign, aa, an, ac, args⟩) 36)) hg1)
  have HB1 := Lib.hid (show BoxC (prgC p) 25 w.heap.size w1 from ((BoxC.new w (prgC p) 25).gr (gr_alloc (grownBy_refl _ _) _)).gr hg1)
  have HI1 := Lib.hid (show BoxC (insC ⟨4, a, b, c, ww, n, sign, aa, an, ac, args⟩) 36 (w.heap.size + 1) w1 from BoxC.gr (show BoxC (insC ⟨4, a, b, c, ww, n, sign, aa, an, ac, args⟩) 36 (w.heap.size + 1) ((w.alloc (.cells (prgC p) 25)).alloc (.cells (insC ⟨4, a, b, c, ww, n, sign, aa, an, ac, args⟩) 36)) from alloc_at (by simp)) hg1)
  obtain ⟨b0, b1, b2⟩ := boxP HB1.out
  obtain ⟨i0, i1, i2, i3, i4, i5, i6, i7⟩ := boxI HI1.out
  have lb := lt_of_heap HB1.out
  have li := lt_of_heap HI1.out
  clear hg1
  obtain ⟨va, hva⟩ : ∃ z, IntKind.i64.wrap (fstK p.fns fn + a) = z := ⟨_, rfl⟩
  obtain ⟨vb, hvb⟩ : ∃ z, IntKind.i64.wrap (fstK p.fns fn + b) = z := ⟨_, rfl⟩
  obtain ⟨vc, hvc⟩ : ∃ z, IntKind.i64.wrap (fstK p.fns fn + c) = z := ⟨_, rfl⟩
  have HVA := Lib.hid (show wz (fstK p.fns fn + a) = va from hva)
  have HVB := Lib.hid (show wz (fstK p.fns fn + b) = vb from hvb)
  have HVC := Lib.hid (show wz (fstK p.fns fn + c) = vc from hvc)
  generalize fstK p.fns fn = s at *
  rcases hww with e1 | ⟨e1, e8⟩ | ⟨e1, e8⟩
  all_goals
    go_wp2_with fail
    go_ret
    exact ⟨none, 0, [], rfl, (fun _ => rfl), .inl rfl, .nil _, HC.out.symm, HG1.out, fun _ h => by cases h⟩
end

end Go.Proofs.YtajmkdbokdjmeaaGreat
