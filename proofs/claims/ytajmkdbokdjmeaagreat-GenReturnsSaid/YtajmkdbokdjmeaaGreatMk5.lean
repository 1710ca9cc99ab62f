/- Merged: Gn5, Gn6, Gn7, Gn8, Gn9, Gna. -/
import Derived.Test.YtajmkdbokdjmeaaGreatMk4
import Derived.Deep.RegionWith
/- gen: bin. -/
namespace Go.Proofs.YtajmkdbokdjmeaaGreat
open Go.RowKit
theorem one_kon {W : World} {b : Nat} {k : Kon} {t : TypeId} {fz : Nat × Nat} (h : W.heap[b]? = some (.cells (konC k) t fz)) : StrAt konC 9 W (some ⟨b, 0, none⟩) [k] := by
  refine .inr ⟨_, rfl, fun j x hx i u hu => ?_⟩
  have hj : j < 1 := (List.getElem?_eq_some_iff.1 hx).1
  obtain rfl : j = 0 := by omega
  simp at hx
  subst hx
  rw [add_none, cell_of_row _ _ _ _ _ _ h]
  rw [show 0 + (0 * 9 + i) = i by omega]
  exact hu
theorem two_kon {W : World} {b : Nat} {k l : Kon} {t : TypeId} {fz : Nat × Nat} (h : W.heap[b]? = some (.cells (konC k ++ konC l) t fz)) : StrAt konC 9 W (some ⟨b, 0, none⟩) [k, l] := by
  refine .inr ⟨_, rfl, fun j x hx i u hu => ?_⟩
  have hj : j < 2 := (List.getElem?_eq_some_iff.1 hx).1
  have hi : i < 9 := (Array.getElem?_eq_some_iff.1 hu).1
  rw [add_none, cell_of_row _ _ _ _ _ _ h]
  rcases (show j = 0 ∨ j = 1 by omega) with rfl | rfl
  · simp at hx
    subst hx
    rw [show 0 + (0 * 9 + i) = i by omega, Array.getElem?_append_left (by rw [konC_size]; exact hi)]
    exact hu
  · simp at hx
    subst hx
    rw [show 0 + (1 * 9 + i) = 9 + i by omega, Array.getElem?_append_right (by rw [konC_size]; omega), konC_size, show 9 + i - 9 = i by omega]
    exact hu
def crV (b1 b2 b3 : Nat) : Value := .agg #[.func (.func 57) #[] #[.pointer (some ⟨b3, 0, none⟩)], .func (.func 56) #[] #[.pointer (some ⟨b1, 0, none⟩), .pointer (some ⟨b2, 0, none⟩)], .func (.func 58) #[] #[.pointer (some ⟨b3, 0, none⟩)]]
/-- What the walks of a region that creates and collects want: the creators' and the generator's facts in whatever world comes. -/
structure Makes (w0 : World) (gb : Nat) (F S : Value) (L : List Kon) (b1 b2 b3 : Nat) (fn pc : Int) (w : World) : Prop where
  made ::
  st : GenSt w0 gb F S L w
  cr : CrAt w b1 b2 b3 fn pc
theorem Makes.keep {w0 w w' : World} {gb : Nat} {F S : Value} {L : List Kon} {b1 b2 b3 : Nat} {fn pc : Int} (h : Makes w0 gb F S L b1 b2 b3 fn pc w) (g : w.grownBy w' none) : Makes w0 gb F S L b1 b2 b3 fn pc w' := ⟨h.st.keep g, h.cr.gr g⟩
def noArgs (c : Kon) : Bool := c.aa.isNone && c.an == 0 && c.ac == 0 && c.args.isEmpty
theorem KArgs.none_ {W : World} {l : List Kon} {fn pc : Nat} (h : l.all noArgs = true) : KArgs W (l.map (atK fn pc)) := fun c hc => by
  obtain ⟨d, hd, rfl⟩ := List.mem_map.1 hc
  have h1 := List.all_eq_true.1 h d hd
  obtain ⟨k, a, b, n, s, o, aa, an, ac, args, f, q⟩ := d
  simp only [noArgs, Bool.and_eq_true, Option.isNone_iff_eq_none, beq_iff_eq, List.isEmpty_iff] at h1
  obtain ⟨⟨⟨rfl, rfl⟩, rfl⟩, rfl⟩ := h1
  exact .nil W
def binK (va vb vc : Int) (sign : ByteArray) : List Kon := if sign.toList = [43] then [twoK 4 va vb 1, twoK 4 va vc 1] else if sign.toList = [45] then [twoK 4 va vb 1] else []
set_option maxRecDepth 100000 in
set_option maxHeartbeats 8000000 in
theorem bin_any {w0 w : World} {gb b1 b2 b3 fn pc : Nat} {F S : Value} {L : List Kon} (hM : Makes w0 gb F S L b1 b2 b3 fn pc w) (va vb vc : Int) (sign : ByteArray) (hl : L.length ≤ 50000000000) :
    Calls Tryz.prog 30 #[.pointer (some ⟨gb, 0, none⟩), crV b1 b2 b3, .int .i64 va, .int .i64 vb, .int .i64 vc, .string sign] w fun e w' => e = .returned (.tuple #[]) ∧ GenSt w0 gb F S (L ++ (binK va vb vc sign).map (atK fn pc)) w' ∧ FrK w w' := by
  have HM := Lib.hid hM
  clear hM
  by_cases h1 : sign.toList = [43]
  · have e1 : (sign.toList == [43]) = true := by simpa using h1
    rw [show binK va vb vc sign = [twoK 4 va vb 1, twoK 4 va vc 1] by unfold binK; rw [if_pos h1]]
    clear h1
    unfold crV
    go_enter Tryz.func30, Tryz.ntmps30
    go_wp2_with fail
    obtain ⟨w1, hw1⟩ : ∃ x, x = w.alloc (.cells #[.func (.func 57) #[] #[.pointer (some ⟨b3, 0, none⟩)], .func (.func 56) #[] #[.pointer (some ⟨b1, 0, none⟩), .pointer (some ⟨b2, 0, none⟩)], .func (.func 58) #[] #[.pointer (some ⟨b3, 0, none⟩)]] 80) := ⟨_, rfl⟩
    rw [← hw1]
    have HB1 := Lib.hid (show BoxC #[.func (.func 57) #[] #[.pointer (some ⟨b3, 0, none⟩)], .func (.func 56) #[] #[.pointer (some ⟨b1, 0, none⟩), .pointer (some ⟨b2, 0, none⟩)], .func (.func 58) #[] #[.pointer (some ⟨b3, 0, none⟩)]] 80 w.heap.size w1 by rw [hw1]; exact BoxC.new _ _ _)
    have HG1 := Lib.hid (show w.grownBy w1 none by rw [hw1]; repeat (first | with_reducible exact grownBy_refl _ _ | with_reducible assumption | with_reducible refine World.grownBy.gr_drew ?_ | with_reducible refine World.grownBy.gr_set ?_ (by simp) _ | with_reducible refine gr_alloc ?_ _))
    have HM1 := Lib.hid (HM.out.keep HG1.out)
    have HKP := Lib.hid (fun (W : World) (k : FrK w1 W) => (show FrK w1 W ∧ W.cell? ⟨w.heap.size, 0, none⟩ = some (.func (.func 57) #[] #[.pointer (some ⟨b3, 0, none⟩)]) ∧ W.cell? ⟨w.heap.size, 1, none⟩ = some (.func (.func 56) #[] #[.pointer (some ⟨b1, 0, none⟩), .pointer (some ⟨b2, 0, none⟩)]) ∧ W.cell? ⟨w.heap.size, 2, none⟩ = some (.func (.func 58) #[] #[.pointer (some ⟨b3, 0, none⟩)]) from
      ⟨k, (HB1.out.fr k (by decide) (by decide)).cell rfl, (HB1.out.fr k (by decide) (by decide)).cell rfl, (HB1.out.fr k (by decide) (by decide)).cell rfl⟩))
    clear hw1
    go_region_held3 (fun W => FrK w1 W ∧ W.cell? ⟨w.heap.size, 0, none⟩ = some (.func (.func 57) #[] #[.pointer (some ⟨b3, 0, none⟩)]) ∧ W.cell? ⟨w.heap.size, 1, none⟩ = some (.func (.func 56) #[] #[.pointer (some ⟨b1, 0, none⟩), .pointer (some ⟨b2, 0, none⟩)]) ∧ W.cell? ⟨w.heap.size, 2, none⟩ = some (.func (.func 58) #[] #[.pointer (some ⟨b3, 0, none⟩)])) (first | assumption | (refine HKP.out _ (FrK.gr ?_); (repeat (first | with_reducible exact grownBy_refl _ _ | with_reducible assumption | with_reducible refine World.grownBy.gr_drew ?_ | with_reducible refine gr_alloc ?_ _ | with_reducible refine grownBy_trans ?_ (by assumption))); done) | (refine HKP.out _ (FrK.trans (FrK.gr ?_) (by assumption)); (repeat (first | with_reducible exact grownBy_refl _ _ | with_reducible assumption | with_reducible refine World.grownBy.gr_drew ?_ | with_reducible refine gr_alloc ?_ _ | with_reducible refine grownBy_trans ?_ (by assumption))); done)) (first
      | (go_at_call 56; refine (flow_any (HM1.out.cr.gr ?_) _ _ _ _).mono ?_; (focus repeat (first | with_reducible exact grownBy_refl _ _ | with_reducible assumption | with_reducible refine World.grownBy.gr_drew ?_ | with_reducible refine gr_alloc ?_ _ | with_reducible refine grownBy_trans ?_ (by assumption))); rintro e w2 ⟨rfl, hg2⟩)
      | (go_at_call 29; refine (collect_any (D := [twoK 4 va vb 1, twoK 4 va vc 1].map (atK fn pc)) (HM1.out.st.keep ?_) (some ⟨_, 0, none⟩) 2 2 rfl (two_kon (heap_alloc_new _ _)) (fun h => by cases h) ?_ (by simp; omega)).mono ?_; (focus repeat (first | with_reducible exact grownBy_refl _ _ | with_reducible assumption | with_reducible refine World.grownBy.gr_drew ?_ | with_reducible refine gr_alloc ?_ _ | with_reducible refine grownBy_trans ?_ (by assumption))); (focus exact KArgs.none_ rfl); rintro e w5 ⟨rfl, hS5, hF5⟩))
    all_goals
      have HE5 := Lib.hid (show GenSt w0 gb F S (L ++ [twoK 4 va vb 1, twoK 4 va vc 1].map (atK fn pc)) w5 from hS5)
      have HF5 := Lib.hid (show FrK w w5 by first | (refine (FrK.gr HG1.out).trans (FrK.trans (FrK.gr ?_) hF5); (repeat (first | with_reducible exact grownBy_refl _ _ | with_reducible assumption | with_reducible refine World.grownBy.gr_drew ?_ | with_reducible refine gr_alloc ?_ _ | with_reducible refine grownBy_trans ?_ (by assumption))); done))
      go_wp2_with fail
      go_end0
      exact ⟨rfl, HE5.out, HF5.out⟩
  · have e1 : (sign.toList == [43]) = false := by simpa using h1
    by_cases h2 : sign.toList = [45]
    · have e2 : (sign.toList == [45]) = true := by simpa using h2
      rw [show binK va vb vc sign = [twoK 4 va vb 1] by unfold binK; rw [if_neg h1, if_pos h2]]
      clear h1 h2
      unfold crV
      go_enter Tryz.func30, Tryz.ntmps30
      have HG1 := Lib.hid (show w.grownBy (w.alloc (.cells #[.func (.func 57) #[] #[.pointer (some ⟨b3, 0, none⟩)], .func (.func 56) #[] #[.pointer (some ⟨b1, 0, none⟩), .pointer (some ⟨b2, 0, none⟩)], .func (.func 58) #[] #[.pointer (some ⟨b3, 0, none⟩)]] 80)) none by repeat (first | with_reducible exact grownBy_refl _ _ | with_reducible assumption | with_reducible refine World.grownBy.gr_drew ?_ | with_reducible refine World.grownBy.gr_set ?_ (by simp) _ | with_reducible refine gr_alloc ?_ _))
      go_wp2_with fail
      refine (flow_any (HM.out.cr.gr HG1.out) _ _ _ _).mono ?_
      rintro e w2 ⟨rfl, hg2⟩
      have HG2 := Lib.hid (grownBy_trans HG1.out hg2)
      clear hg2
      go_wp2_with fail
      refine (collect_any (D := [twoK 4 va vb 1].map (atK fn pc)) (HM.out.st.keep (gr_alloc HG2.out _)) (some ⟨_, 0, none⟩) 1 1 rfl (one_kon (heap_alloc_new _ _)) (fun h => by cases h) (KArgs.none_ rfl) (by simp; omega)).mono ?_
      rintro e w5 ⟨rfl, hS5, hF5⟩
      have HE5 := Lib.hid (show GenSt w0 gb F S (L ++ [twoK 4 va vb 1].map (atK fn pc)) w5 from hS5)
      have HF5 := Lib.hid (show FrK w w5 from (FrK.gr (gr_alloc HG2.out _)).trans hF5)
      go_wp2_with fail
      go_end0
      exact ⟨rfl, HE5.out, HF5.out⟩
    · have e2 : (sign.toList == [45]) = false := by simpa using h2
      rw [show binK va vb vc sign = [] by unfold binK; rw [if_neg h1, if_neg h2]]
      clear h1 h2
      unfold crV
      go_enter Tryz.func30, Tryz.ntmps30
      go_wp2_with fail
      go_end0
      rw [List.map_nil, List.append_nil]
      exact ⟨rfl, HM.out.st.keep (by repeat (first | with_reducible exact grownBy_refl _ _ | with_reducible assumption | with_reducible refine World.grownBy.gr_drew ?_ | with_reducible refine World.grownBy.gr_set ?_ (by simp) _ | with_reducible refine gr_alloc ?_ _)), FrK.gr (by repeat (first | with_reducible exact grownBy_refl _ _ | with_reducible assumption | with_reducible refine World.grownBy.gr_drew ?_ | with_reducible refine World.grownBy.gr_set ?_ (by simp) _ | with_reducible refine gr_alloc ?_ _))⟩

end Go.Proofs.YtajmkdbokdjmeaaGreat
/- gen: call. -/
namespace Go.Proofs.YtajmkdbokdjmeaaGreat
open Go.RowKit
theorem GenSt.cell1 {w0 w : World} {gb : Nat} {F S : Value} {L : List Kon} (h : GenSt w0 gb F S L w) : w.cell? ⟨gb, 0, none⟩ = some F ∧ w.cell? ⟨gb, 1, none⟩ = some S := by
  obtain ⟨_, _, ⟨v, h3, _⟩, _⟩ := h
  exact ⟨by rw [cell_of_row _ _ _ _ _ _ h3]; rfl, by rw [cell_of_row _ _ _ _ _ _ h3]; rfl⟩
/-- The program, and its first variables, in the world in which the generator was made. -/
structure Gen0 (p : Prg) (Sa : Option Addr) (Sc : Nat) (w : World) : Prop where
  made ::
  fst : IntsAt w Sa p.fns.length Sc (fstsL p.fns)
  fns : StrAt funC 5 w p.fa p.fns
  small : SmallF p.fns
abbrev GenP (p : Prg) (Sa : Option Addr) (Sc : Nat) (w0 : World) (gb : Nat) (L : List Kon) (w : World) : Prop := GenSt w0 gb (.slice p.fa p.fns.length p.fc) (.slice Sa p.fns.length Sc) L w
theorem GenSt.reads {p : Prg} {Sa : Option Addr} {Sc : Nat} {w0 : World} {gb : Nat} {L : List Kon} {w : World} (h : GenP p Sa Sc w0 gb L w) (h0 : Gen0 p Sa Sc w0) : GenR p Sa Sc gb w :=
  ⟨h.cell1.1, h.cell1.2, h0.fst.keep (.of h.gr), h0.fns.keep (.of h.gr)⟩
theorem ArgsAt.cellAt {w : World} {A : Option Addr} {n c : Nat} {l : List Int} (h : ArgsAt w A n c l) {q : Nat} {y : Int} (hx : l[q]? = some y) : ∃ ad, A = some ad ∧ w.cell? (ad.add q) = some (.int .i64 y) := h.ints.cellAt hx
set_option maxRecDepth 100000 in
set_option maxHeartbeats 16000000 in
theorem call_any {p : Prg} {Sa : Option Addr} {Sc gb b1 b2 b3 fn pc : Nat} {w0 w : World} {L : List Kon} (h0 : Gen0 p Sa Sc w0) (hM : Makes w0 gb (.slice p.fa p.fns.length p.fc) (.slice Sa p.fns.length Sc) L b1 b2 b3 fn pc w)
    (va : Int) (n : Nat) (hn : n < p.fns.length) (A : Option Addr) (c : Nat) (M : List Int) (hA : ArgsAt w A M.length c M) (hML : M.length ≤ 4000) (hl : L.length ≤ 50000000000) :
    Calls Tryz.prog 32 #[.pointer (some ⟨gb, 0, none⟩), crV b1 b2 b3, .int .i64 va, .int .i64 n, .slice A M.length c] w fun e w' => e = .returned (.tuple #[]) ∧
      GenP p Sa Sc w0 gb (L ++ (callV (fstK p.fns n) (tellK p.fns n) va M).map (atK fn pc)) w' ∧ FrK w w' := by
  have HM := Lib.hid hM
  have HA := Lib.hid hA
  have H0 := Lib.hid h0
  have HS := h0.small.1
  have HN := Lib.hid hn
  have HT := Lib.hid (h0.small.fst n)
  obtain ⟨ad, hSa, _⟩ := (hM.st.reads h0).first hn
  subst hSa
  have HG1 := Lib.hid (show w.grownBy (w.alloc (.cells #[.func (.func 57) #[] #[.pointer (some ⟨b3, 0, none⟩)], .func (.func 56) #[] #[.pointer (some ⟨b1, 0, none⟩), .pointer (some ⟨b2, 0, none⟩)], .func (.func 58) #[] #[.pointer (some ⟨b3, 0, none⟩)]] 80)) none by repeat (first | with_reducible exact grownBy_refl _ _ | with_reducible assumption | with_reducible refine World.grownBy.gr_drew ?_ | with_reducible refine World.grownBy.gr_set ?_ (by simp) _ | with_reducible refine gr_alloc ?_ _))
  have g0 : w.cell? ⟨gb, 0, none⟩ = some (.slice p.fa p.fns.length p.fc) := hM.st.cell1.1
  have e1 : decide ((n : Int) < 0) = false := by simp
  have e2 : decide ((p.fns.length : Int) ≤ (n : Int)) = false := by simp; omega
  have e3 : decide (p.fns.length ≤ n) = false := by simp; omega
  have hgb : gb < w.heap.size := by obtain ⟨_, _, ⟨v, h3, _⟩, _⟩ := hM.st; exact lt_of_heap h3
  clear hM hA h0
  unfold crV
  go_enter Tryz.func32, Tryz.ntmps32
  go_wp2_with fail
  obtain ⟨w1, hw1⟩ : ∃ x, x = w.alloc (.cells #[.func (.func 57) #[] #[.pointer (some ⟨b3, 0, none⟩)], .func (.func 56) #[] #[.pointer (some ⟨b1, 0, none⟩), .pointer (some ⟨b2, 0, none⟩)], .func (.func 58) #[] #[.pointer (some ⟨b3, 0, none⟩)]] 80) := ⟨_, rfl⟩
  rw [← hw1]
  have HB1 := Lib.hid (show BoxC #[.func (.func 57) #[] #[.pointer (some ⟨b3, 0, none⟩)], .func (.func 56) #[] #[.pointer (some ⟨b1, 0, none⟩), .pointer (some ⟨b2, 0, none⟩)], .func (.func 58) #[] #[.pointer (some ⟨b3, 0, none⟩)]] 80 w.heap.size w1 by rw [hw1]; exact BoxC.new _ _ _)
  rw [← hw1] at HG1
  have HM1 := Lib.hid (HM.out.keep HG1.out)
  have HA1 := Lib.hid (HA.out.fr (.gr HG1.out))
  clear hw1 HM HA
  generalize w.heap.size = B at *
  go_loopw [27] (fun i wr => ∃ q : Nat, q ≤ M.length ∧ i = .int .i64 q ∧ Hid (GenP p (some ad) Sc w0 gb (L ++ (argV (fstK p.fns n) M q).map (atK fn pc)) wr) ∧ Hid (FrK w1 wr)) (fun i _ => M.length - (intOf i).toNat)
  case atStart => exact ⟨0, Nat.zero_le _, rfl, Lib.hid (by rw [show argV (fstK p.fns n) M 0 = [] from rfl, List.map_nil, List.append_nil]; exact HM1.out.st), Lib.hid (FrK.refl _)⟩
  case round =>
    obtain ⟨q, hq, rfl, HST, HFR⟩ := hrel
    clear g0
    have HCR := Lib.hid (HM1.out.cr.fr HFR.out)
    have HBX := Lib.hid (HB1.out.fr HFR.out (by decide) (by decide))
    have HAQ := Lib.hid (HA1.out.fr HFR.out)
    have HRD := Lib.hid (HST.out.reads H0.out)
    have HQ := Lib.hid (show IntKind.i64.wrap ((q : Int) + 1) = (q : Int) + 1 by rw [IntKind.wrap_i64]; omega)
    by_cases hlt : q < M.length
    · have hx := List.getElem?_eq_getElem hlt
      obtain ⟨ma, hma, c4⟩ := HAQ.out.cellAt hx
      generalize M[q]'hlt = x at *
      subst hma
      have HX := Lib.hid hx
      obtain ⟨ad', hAD, c1⟩ := HRD.out.first hn
      injection hAD with hAD
      subst hAD
      have c3 := HRD.out.h1
      obtain ⟨z, hz⟩ : ∃ z, z = fstK p.fns n + (q : Int) := ⟨_, rfl⟩
      have hzz : IntKind.i64.wrap (fstK p.fns n + (q : Int)) = z := by rw [hz, IntKind.wrap_i64]; have := HT.out; omega
      have HZ := Lib.hid hz
      have hLq : (argV (fstK p.fns n) M q).length = q := argV_len _ _ _
      have HLQ := Lib.hid hLq
      clear hx hz hLq
      have HKP := Lib.hid (fun (W : World) (L' : List Kon) (hS : GenP p (some ad) Sc w0 gb L' W) (k : FrK wr W) => (show W.cell? ⟨gb, 1, none⟩ = some (.slice (some ad) p.fns.length Sc) ∧ W.cell? (ad.add n) = some (.int .i64 (fstK p.fns n)) ∧ W.cell? ⟨B, 1, none⟩ = some (.func (.func 56) #[] #[.pointer (some ⟨b1, 0, none⟩), .pointer (some ⟨b2, 0, none⟩)]) from
        ⟨hS.cell1.2, (by obtain ⟨ad', hAD, c1⟩ := (GenSt.reads hS H0.out).first hn; injection hAD with hAD; subst hAD; exact c1), (HBX.out.fr k (by decide) (by decide)).cell rfl⟩))
      generalize fstK p.fns n = t at *
      go_wp2_with fail
      go_region_held3 (fun W => W.cell? ⟨gb, 1, none⟩ = some (.slice (some ad) p.fns.length Sc) ∧ W.cell? (ad.add n) = some (.int .i64 t) ∧ W.cell? ⟨B, 1, none⟩ = some (.func (.func 56) #[] #[.pointer (some ⟨b1, 0, none⟩), .pointer (some ⟨b2, 0, none⟩)])) (first | assumption | (refine HKP.out _ _ (HST.out.keep ?_) (FrK.gr ?_) <;> (repeat (first | with_reducible exact grownBy_refl _ _ | with_reducible assumption | with_reducible refine World.grownBy.gr_drew ?_ | with_reducible refine gr_alloc ?_ _ | with_reducible refine grownBy_trans ?_ (by assumption))); done) | (refine HKP.out _ _ (by assumption) (FrK.trans (FrK.gr ?_) (by assumption)); (repeat (first | with_reducible exact grownBy_refl _ _ | with_reducible assumption | with_reducible refine World.grownBy.gr_drew ?_ | with_reducible refine gr_alloc ?_ _ | with_reducible refine grownBy_trans ?_ (by assumption))); done)) (first
        | (go_at_call 56; refine (flow_any (HCR.out.gr ?_) _ _ _ _).mono ?_; (focus repeat (first | with_reducible exact grownBy_refl _ _ | with_reducible assumption | with_reducible refine World.grownBy.gr_drew ?_ | with_reducible refine gr_alloc ?_ _ | with_reducible refine grownBy_trans ?_ (by assumption))); rintro e w2 ⟨rfl, hg2⟩)
        | (go_at_call 29; refine (collect_any (D := [twoK 2 z x 0].map (atK fn pc)) (HST.out.keep ?_) (some ⟨_, 0, none⟩) 1 1 rfl (one_kon (heap_alloc_new _ _)) (fun h => by cases h) ?_ (by simp [argV_len]; omega)).mono ?_; (focus repeat (first | with_reducible exact grownBy_refl _ _ | with_reducible assumption | with_reducible refine World.grownBy.gr_drew ?_ | with_reducible refine gr_alloc ?_ _ | with_reducible refine grownBy_trans ?_ (by assumption))); (focus exact KArgs.none_ rfl); rintro e w5 ⟨rfl, hS5, hF5⟩))
      all_goals
        have HE5 := Lib.hid (show GenP p (some ad) Sc w0 gb (L ++ (argV t M (q + 1)).map (atK fn pc)) w5 by
          rw [argV_succ HX.out, List.map_append, ← List.append_assoc, ← HZ.out]
          exact hS5)
        have HF5 := Lib.hid (show FrK w1 w5 by refine HFR.out.trans ((FrK.gr (w' := w2.alloc _) ?_).trans hF5); repeat (first | with_reducible exact grownBy_refl _ _ | with_reducible assumption | with_reducible refine World.grownBy.gr_drew ?_ | with_reducible refine gr_alloc ?_ _ | with_reducible refine grownBy_trans ?_ (by assumption)))
        go_wp2_with fail
        exact ⟨⟨q + 1, hlt, rfl, HE5, HF5⟩, by simp [intOf]; omega⟩
    · obtain rfl : q = M.length := by omega
      have c3 := HRD.out.h1
      have HTL := Lib.hid (fun (W : World) (hg : wr.grownBy W none) => result_any (w := W) (HRD.out.keep (CellsK.of hg)) H0.out.small n hn)
      have HKP := Lib.hid (fun (W : World) (k : FrK wr W) => (show W.cell? ⟨B, 1, none⟩ = some (.func (.func 56) #[] #[.pointer (some ⟨b1, 0, none⟩), .pointer (some ⟨b2, 0, none⟩)]) from
        (HBX.out.fr k (by decide) (by decide)).cell rfl))
      have hk0 := HKP.out wr (FrK.refl _)
      generalize htl : tellK p.fns n = tl at *
      generalize ht : fstK p.fns n = t at *
      have HTE := Lib.hid htl
      have HFE := Lib.hid ht
      clear htl ht
      go_wp2_with fail
      go_region_held3 (fun W => W.cell? ⟨B, 1, none⟩ = some (.func (.func 56) #[] #[.pointer (some ⟨b1, 0, none⟩), .pointer (some ⟨b2, 0, none⟩)])) (first | assumption | (refine HKP.out _ (FrK.gr ?_); (repeat (first | with_reducible exact grownBy_refl _ _ | with_reducible assumption | with_reducible refine World.grownBy.gr_drew ?_ | with_reducible refine gr_alloc ?_ _ | with_reducible refine grownBy_trans ?_ (by assumption))); done) | (refine HKP.out _ (FrK.trans (FrK.gr ?_) (by assumption)); (repeat (first | with_reducible exact grownBy_refl _ _ | with_reducible assumption | with_reducible refine World.grownBy.gr_drew ?_ | with_reducible refine gr_alloc ?_ _ | with_reducible refine grownBy_trans ?_ (by assumption))); done)) (first
        | (go_at_call 34; refine (HTL.out _ ?_).mono ?_; (focus repeat (first | with_reducible exact grownBy_refl _ _ | with_reducible assumption | with_reducible refine World.grownBy.gr_drew ?_ | with_reducible refine gr_alloc ?_ _ | with_reducible refine grownBy_trans ?_ (by assumption))); rintro e w2 ⟨rfl, hg2⟩)
        | (go_at_call 56; refine (flow_any (HCR.out.gr ?_) _ _ _ _).mono ?_; (focus repeat (first | with_reducible exact grownBy_refl _ _ | with_reducible assumption | with_reducible refine World.grownBy.gr_drew ?_ | with_reducible refine gr_alloc ?_ _ | with_reducible refine grownBy_trans ?_ (by assumption))); rintro e w3 ⟨rfl, hg3⟩)
        | (go_at_call 29; refine (collect_any (D := [twoK 2 va tl 0].map (atK fn pc)) (HST.out.keep ?_) (some ⟨_, 0, none⟩) 1 1 rfl (one_kon (heap_alloc_new _ _)) (fun h => by cases h) ?_ (by simp [argV_len]; omega)).mono ?_; (focus repeat (first | with_reducible exact grownBy_refl _ _ | with_reducible assumption | with_reducible refine World.grownBy.gr_drew ?_ | with_reducible refine gr_alloc ?_ _ | with_reducible refine grownBy_trans ?_ (by assumption))); (focus exact KArgs.none_ rfl); rintro e w5 ⟨rfl, hS5, hF5⟩))
      all_goals
        have HE5 := Lib.hid (show GenP p (some ad) Sc w0 gb (L ++ (callV (fstK p.fns n) (tellK p.fns n) va M).map (atK fn pc)) w5 by
          unfold callV
          rw [List.map_append, ← List.append_assoc, HTE.out, HFE.out]
          exact hS5)
        have HF5 := Lib.hid (show FrK w w5 by refine (FrK.gr HG1.out).trans (HFR.out.trans ((FrK.gr (w' := w3.alloc _) ?_).trans hF5)); repeat (first | with_reducible exact grownBy_refl _ _ | with_reducible assumption | with_reducible refine World.grownBy.gr_drew ?_ | with_reducible refine gr_alloc ?_ _ | with_reducible refine grownBy_trans ?_ (by assumption)))
        go_wp2_with fail
        go_end0
        exact ⟨rfl, HE5.out, HF5.out⟩

end Go.Proofs.YtajmkdbokdjmeaaGreat
/- gen: insn, what its cases share. -/
namespace Go.Proofs.YtajmkdbokdjmeaaGreat
open Go.RowKit
theorem KArgs.one {W : World} {c : Kon} (h : ArgsAt W c.aa c.an c.ac c.args) : KArgs W [c] := fun d hd => by
  obtain rfl := List.mem_singleton.1 hd
  exact h
def crC (b1 b2 b3 : Nat) : Array Value := #[.func (.func 57) #[] #[.pointer (some ⟨b3, 0, none⟩)], .func (.func 56) #[] #[.pointer (some ⟨b1, 0, none⟩), .pointer (some ⟨b2, 0, none⟩)], .func (.func 58) #[] #[.pointer (some ⟨b3, 0, none⟩)]]
theorem boxI {i : Ins} {b : Nat} {w : World} (h : BoxC (insC i) 36 b w) : w.cell? ⟨b, 0, none⟩ = some (.int .i64 i.op) ∧ w.cell? ⟨b, 1, none⟩ = some (.int .i64 i.a) ∧ w.cell? ⟨b, 2, none⟩ = some (.int .i64 i.b) ∧ w.cell? ⟨b, 3, none⟩ = some (.int .i64 i.c) ∧ w.cell? ⟨b, 4, none⟩ = some (.int .i64 i.w) ∧ w.cell? ⟨b, 5, none⟩ = some (.int .i64 i.n) ∧ w.cell? ⟨b, 6, none⟩ = some (.string i.sign) ∧ w.cell? ⟨b, 7, none⟩ = some (.slice i.aa i.an i.ac) :=
  ⟨h.cell rfl, h.cell rfl, h.cell rfl, h.cell rfl, h.cell rfl, h.cell rfl, h.cell rfl, h.cell rfl⟩
theorem boxK {b b1 b2 b3 : Nat} {w : World} (h : BoxC (crC b1 b2 b3) 80 b w) : w.cell? ⟨b, 0, none⟩ = some (.func (.func 57) #[] #[.pointer (some ⟨b3, 0, none⟩)]) ∧ w.cell? ⟨b, 1, none⟩ = some (.func (.func 56) #[] #[.pointer (some ⟨b1, 0, none⟩), .pointer (some ⟨b2, 0, none⟩)]) ∧ w.cell? ⟨b, 2, none⟩ = some (.func (.func 58) #[] #[.pointer (some ⟨b3, 0, none⟩)]) :=
  ⟨h.cell rfl, h.cell rfl, h.cell rfl⟩
/-- What insn's walk holds behind its head: the boxes of the instruction, and of the creators. -/
structure InsW (p : Prg) (Sa : Option Addr) (Sc : Nat) (w0 : World) (gb fn pc : Nat) (L : List Kon) (i : Ins) (w : World) (b b1 b2 b3 q : Nat) (W : World) : Prop where
  made ::
  hM : Makes w0 gb (.slice p.fa p.fns.length p.fc) (.slice Sa p.fns.length Sc) L b1 b2 b3 fn pc W
  hi : BoxC (insC i) 36 b W
  hk : BoxC (crC b1 b2 b3) 80 q W
  hg : w.grownBy W none
theorem InsW.keep {p : Prg} {Sa : Option Addr} {Sc : Nat} {w0 : World} {gb fn pc : Nat} {L : List Kon} {i : Ins} {w W W' : World} {b b1 b2 b3 q : Nat} (h : InsW p Sa Sc w0 gb fn pc L i w b b1 b2 b3 q W) (g : W.grownBy W' none) : InsW p Sa Sc w0 gb fn pc L i w b b1 b2 b3 q W' :=
  ⟨h.hM.keep g, h.hi.gr g, h.hk.gr g, grownBy_trans h.hg g⟩
theorem InsW.new {p : Prg} {Sa : Option Addr} {Sc : Nat} {w0 : World} {gb fn pc : Nat} {L : List Kon} {i : Ins} {w w1 : World} {b1 b2 b3 : Nat} (h : GenP p Sa Sc w0 gb L w) (hc : CrAt w1 b1 b2 b3 fn pc) (g : (w.alloc (.cells (insC i) 36)).grownBy w1 none) :
    InsW p Sa Sc w0 gb fn pc L i w w.heap.size b1 b2 b3 w1.heap.size (w1.alloc (.cells (crC b1 b2 b3) 80)) :=
  have g1 := gr_alloc (grownBy_refl w1 none) (.cells (crC b1 b2 b3) 80)
  have g0 := grownBy_trans (gr_alloc (grownBy_refl w none) (.cells (insC i) 36)) g
  ⟨⟨h.keep (grownBy_trans g0 g1), hc.gr g1⟩, (BoxC.gr (BoxC.new w (insC i) 36) g).gr g1, BoxC.new _ _ _, grownBy_trans g0 g1⟩

end Go.Proofs.YtajmkdbokdjmeaaGreat
/- gen: insn: bases. -/
namespace Go.Proofs.YtajmkdbokdjmeaaGreat
open Go.RowKit
section
variable {p : Prg} {Sa : Option Addr} {Sc gb fn pc : Nat} {w0 w : World} {L : List Kon} (a b c ww n : Int) (sign : ByteArray) (aa : Option Addr) (an ac : Nat) (args : List Int)
set_option maxRecDepth 100000 in
set_option maxHeartbeats 16000000 in
theorem ins_2 (h0 : Gen0 p Sa Sc w0) (hS : GenP p Sa Sc w0 gb L w) (hfn : fn < p.fns.length) (hl : L.length ≤ 40000000000) :
    Calls Tryz.prog 20 #[.pointer (some ⟨gb, 0, none⟩), .int .i64 fn, .int .i64 pc, insV ⟨2, a, b, c, ww, n, sign, aa, an, ac, args⟩] w fun e w' => e = .returned (.tuple #[]) ∧
      GenP p Sa Sc w0 gb (L ++ (consI p.fns fn ⟨2, a, b, c, ww, n, sign, aa, an, ac, args⟩).map (atK fn pc)) w' ∧ FrK w w' := by
  have HS := Lib.hid hS
  have H0 := Lib.hid h0
  have HFN := Lib.hid hfn
  obtain ⟨ad, hSa, _⟩ := (hS.reads h0).first hfn
  subst hSa
  have HC := Lib.hid (show consI p.fns fn ⟨2, a, b, c, ww, n, sign, aa, an, ac, args⟩ = [baseK (wz (fstK p.fns fn + a)) b] from rfl)
  clear hS h0 
  unfold insV insC
  go_enter Tryz.func20, Tryz.ntmps20
  go_wp2_with fail
  refine (creators_any _ _ _).mono ?_
  rintro e w1 ⟨b1, b2, b3, rfl, hcr, hg1⟩
  have HW := Lib.hid (InsW.new (i := ⟨2, a, b, c, ww, n, sign, aa, an, ac, args⟩) HS.out hcr hg1)
  clear hcr hg1 HS
  go_upto_region 2 with fail
  unfold crC at HW
  generalize w1.alloc _ = W2 at *
  generalize w.heap.size = ib at *
  generalize w1.heap.size = q at *
  obtain ⟨ad', hAD, c1⟩ := (HW.out.hM.st.reads H0.out).first hfn
  injection hAD with hAD
  subst hAD
  have c3 := HW.out.hM.st.cell1.2
  obtain ⟨i0, i1, i2, i3, i4, i5, i6, i7⟩ := boxI HW.out.hi
  obtain ⟨k0, k1, k2⟩ := boxK HW.out.hk
  obtain ⟨va, hva⟩ : ∃ z, IntKind.i64.wrap (fstK p.fns fn + a) = z := ⟨_, rfl⟩
  obtain ⟨vb, hvb⟩ : ∃ z, IntKind.i64.wrap (fstK p.fns fn + b) = z := ⟨_, rfl⟩
  have HVA := Lib.hid (show wz (fstK p.fns fn + a) = va from hva)
  have HVB := Lib.hid (show wz (fstK p.fns fn + b) = vb from hvb)
  generalize fstK p.fns fn = s at *
  go_wp2_with go_region
  refine (base_any (HW.out.hM.cr.gr (grownBy_refl W2 none).gr_drew) _ _).mono ?_
  rintro e w3 ⟨rfl, hg3⟩
  have HG3 := Lib.hid (grownBy_trans (grownBy_refl W2 none).gr_drew hg3)
  clear hg3
  go_wp2_with fail
  refine (collect_any (D := [baseK va b].map (atK fn pc)) (HW.out.hM.st.keep (gr_alloc HG3.out _)) (some ⟨_, 0, none⟩) 1 1 rfl (one_kon (heap_alloc_new _ _)) (fun h => by cases h) (KArgs.none_ rfl) (by simp; omega)).mono ?_
  rintro e w5 ⟨rfl, hS5, hF5⟩
  have HE5 := Lib.hid (show GenP p (some ad) Sc w0 gb (L ++ (consI p.fns fn ⟨2, a, b, c, ww, n, sign, aa, an, ac, args⟩).map (atK fn pc)) w5 by rw [HC.out, HVA.out]; exact hS5)
  have HF5 := Lib.hid (show FrK w w5 from (FrK.gr (grownBy_trans HW.out.hg (gr_alloc HG3.out _))).trans hF5)
  go_wp2_with fail
  go_end0
  exact ⟨rfl, HE5.out, HF5.out⟩
set_option maxRecDepth 100000 in
set_option maxHeartbeats 16000000 in
theorem ins_13 (h0 : Gen0 p Sa Sc w0) (hS : GenP p Sa Sc w0 gb L w) (hfn : fn < p.fns.length) (hl : L.length ≤ 40000000000) :
    Calls Tryz.prog 20 #[.pointer (some ⟨gb, 0, none⟩), .int .i64 fn, .int .i64 pc, insV ⟨13, a, b, c, ww, n, sign, aa, an, ac, args⟩] w fun e w' => e = .returned (.tuple #[]) ∧
      GenP p Sa Sc w0 gb (L ++ (consI p.fns fn ⟨13, a, b, c, ww, n, sign, aa, an, ac, args⟩).map (atK fn pc)) w' ∧ FrK w w' := by
  have HS := Lib.hid hS
  have H0 := Lib.hid h0
  have HFN := Lib.hid hfn
  obtain ⟨ad, hSa, _⟩ := (hS.reads h0).first hfn
  subst hSa
  have HC := Lib.hid (show consI p.fns fn ⟨13, a, b, c, ww, n, sign, aa, an, ac, args⟩ = [baseK (wz (fstK p.fns fn + a)) n] from rfl)
  clear hS h0 
  unfold insV insC
  go_enter Tryz.func20, Tryz.ntmps20
  go_wp2_with fail
  refine (creators_any _ _ _).mono ?_
  rintro e w1 ⟨b1, b2, b3, rfl, hcr, hg1⟩
  have HW := Lib.hid (InsW.new (i := ⟨13, a, b, c, ww, n, sign, aa, an, ac, args⟩) HS.out hcr hg1)
  clear hcr hg1 HS
  go_upto_region 2 with fail
  unfold crC at HW
  generalize w1.alloc _ = W2 at *
  generalize w.heap.size = ib at *
  generalize w1.heap.size = q at *
  obtain ⟨ad', hAD, c1⟩ := (HW.out.hM.st.reads H0.out).first hfn
  injection hAD with hAD
  subst hAD
  have c3 := HW.out.hM.st.cell1.2
  obtain ⟨i0, i1, i2, i3, i4, i5, i6, i7⟩ := boxI HW.out.hi
  obtain ⟨k0, k1, k2⟩ := boxK HW.out.hk
  obtain ⟨va, hva⟩ : ∃ z, IntKind.i64.wrap (fstK p.fns fn + a) = z := ⟨_, rfl⟩
  obtain ⟨vb, hvb⟩ : ∃ z, IntKind.i64.wrap (fstK p.fns fn + b) = z := ⟨_, rfl⟩
  have HVA := Lib.hid (show wz (fstK p.fns fn + a) = va from hva)
  have HVB := Lib.hid (show wz (fstK p.fns fn + b) = vb from hvb)
  generalize fstK p.fns fn = s at *
  go_wp2_with go_region
  refine (base_any (HW.out.hM.cr.gr (grownBy_refl W2 none).gr_drew) _ _).mono ?_
  rintro e w3 ⟨rfl, hg3⟩
  have HG3 := Lib.hid (grownBy_trans (grownBy_refl W2 none).gr_drew hg3)
  clear hg3
  go_wp2_with fail
  refine (collect_any (D := [baseK va n].map (atK fn pc)) (HW.out.hM.st.keep (gr_alloc HG3.out _)) (some ⟨_, 0, none⟩) 1 1 rfl (one_kon (heap_alloc_new _ _)) (fun h => by cases h) (KArgs.none_ rfl) (by simp; omega)).mono ?_
  rintro e w5 ⟨rfl, hS5, hF5⟩
  have HE5 := Lib.hid (show GenP p (some ad) Sc w0 gb (L ++ (consI p.fns fn ⟨13, a, b, c, ww, n, sign, aa, an, ac, args⟩).map (atK fn pc)) w5 by rw [HC.out, HVA.out]; exact hS5)
  have HF5 := Lib.hid (show FrK w w5 from (FrK.gr (grownBy_trans HW.out.hg (gr_alloc HG3.out _))).trans hF5)
  go_wp2_with fail
  go_end0
  exact ⟨rfl, HE5.out, HF5.out⟩
end

end Go.Proofs.YtajmkdbokdjmeaaGreat
/- gen: insn: moves. -/
namespace Go.Proofs.YtajmkdbokdjmeaaGreat
open Go.RowKit
section
variable {p : Prg} {Sa : Option Addr} {Sc gb fn pc : Nat} {w0 w : World} {L : List Kon} (a b c ww n : Int) (sign : ByteArray) (aa : Option Addr) (an ac : Nat) (args : List Int)
set_option maxRecDepth 100000 in
set_option maxHeartbeats 16000000 in
theorem ins_10 (h0 : Gen0 p Sa Sc w0) (hS : GenP p Sa Sc w0 gb L w) (hfn : fn < p.fns.length) (hl : L.length ≤ 40000000000) :
    Calls Tryz.prog 20 #[.pointer (some ⟨gb, 0, none⟩), .int .i64 fn, .int .i64 pc, insV ⟨10, a, b, c, ww, n, sign, aa, an, ac, args⟩] w fun e w' => e = .returned (.tuple #[]) ∧
      GenP p Sa Sc w0 gb (L ++ (consI p.fns fn ⟨10, a, b, c, ww, n, sign, aa, an, ac, args⟩).map (atK fn pc)) w' ∧ FrK w w' := by
  have HS := Lib.hid hS
  have H0 := Lib.hid h0
  have HFN := Lib.hid hfn
  obtain ⟨ad, hSa, _⟩ := (hS.reads h0).first hfn
  subst hSa
  have HC := Lib.hid (show consI p.fns fn ⟨10, a, b, c, ww, n, sign, aa, an, ac, args⟩ = [twoK 7 (wz (fstK p.fns fn + a)) (wz (fstK p.fns fn + b)) n] from rfl)
  clear hS h0 
  unfold insV insC
  go_enter Tryz.func20, Tryz.ntmps20
  go_wp2_with fail
  refine (creators_any _ _ _).mono ?_
  rintro e w1 ⟨b1, b2, b3, rfl, hcr, hg1⟩
  have HW := Lib.hid (InsW.new (i := ⟨10, a, b, c, ww, n, sign, aa, an, ac, args⟩) HS.out hcr hg1)
  clear hcr hg1 HS
  go_upto_region 2 with fail
  unfold crC at HW
  generalize w1.alloc _ = W2 at *
  generalize w.heap.size = ib at *
  generalize w1.heap.size = q at *
  obtain ⟨ad', hAD, c1⟩ := (HW.out.hM.st.reads H0.out).first hfn
  injection hAD with hAD
  subst hAD
  have c3 := HW.out.hM.st.cell1.2
  obtain ⟨i0, i1, i2, i3, i4, i5, i6, i7⟩ := boxI HW.out.hi
  obtain ⟨k0, k1, k2⟩ := boxK HW.out.hk
  obtain ⟨va, hva⟩ : ∃ z, IntKind.i64.wrap (fstK p.fns fn + a) = z := ⟨_, rfl⟩
  obtain ⟨vb, hvb⟩ : ∃ z, IntKind.i64.wrap (fstK p.fns fn + b) = z := ⟨_, rfl⟩
  have HVA := Lib.hid (show wz (fstK p.fns fn + a) = va from hva)
  have HVB := Lib.hid (show wz (fstK p.fns fn + b) = vb from hvb)
  generalize fstK p.fns fn = s at *
  go_wp2_with go_region
  refine (flow_any (HW.out.hM.cr.gr (grownBy_refl W2 none).gr_drew) _ _ _ _).mono ?_
  rintro e w3 ⟨rfl, hg3⟩
  have HG3 := Lib.hid (grownBy_trans (grownBy_refl W2 none).gr_drew hg3)
  clear hg3
  go_wp2_with fail
  refine (collect_any (D := [twoK 7 va vb n].map (atK fn pc)) (HW.out.hM.st.keep (gr_alloc HG3.out _)) (some ⟨_, 0, none⟩) 1 1 rfl (one_kon (heap_alloc_new _ _)) (fun h => by cases h) (KArgs.none_ rfl) (by simp; omega)).mono ?_
  rintro e w5 ⟨rfl, hS5, hF5⟩
  have HE5 := Lib.hid (show GenP p (some ad) Sc w0 gb (L ++ (consI p.fns fn ⟨10, a, b, c, ww, n, sign, aa, an, ac, args⟩).map (atK fn pc)) w5 by rw [HC.out, HVA.out, HVB.out]; exact hS5)
  have HF5 := Lib.hid (show FrK w w5 from (FrK.gr (grownBy_trans HW.out.hg (gr_alloc HG3.out _))).trans hF5)
  go_wp2_with fail
  go_end0
  exact ⟨rfl, HE5.out, HF5.out⟩
set_option maxRecDepth 100000 in
set_option maxHeartbeats 16000000 in
theorem ins_11 (h0 : Gen0 p Sa Sc w0) (hS : GenP p Sa Sc w0 gb L w) (hfn : fn < p.fns.length) (hl : L.length ≤ 40000000000) :
    Calls Tryz.prog 20 #[.pointer (some ⟨gb, 0, none⟩), .int .i64 fn, .int .i64 pc, insV ⟨11, a, b, c, ww, n, sign, aa, an, ac, args⟩] w fun e w' => e = .returned (.tuple #[]) ∧
      GenP p Sa Sc w0 gb (L ++ (consI p.fns fn ⟨11, a, b, c, ww, n, sign, aa, an, ac, args⟩).map (atK fn pc)) w' ∧ FrK w w' := by
  have HS := Lib.hid hS
  have H0 := Lib.hid h0
  have HFN := Lib.hid hfn
  obtain ⟨ad, hSa, _⟩ := (hS.reads h0).first hfn
  subst hSa
  have HC := Lib.hid (show consI p.fns fn ⟨11, a, b, c, ww, n, sign, aa, an, ac, args⟩ = [twoK 7 (wz (fstK p.fns fn + a)) (wz (fstK p.fns fn + b)) (-1)] from rfl)
  clear hS h0 
  unfold insV insC
  go_enter Tryz.func20, Tryz.ntmps20
  go_wp2_with fail
  refine (creators_any _ _ _).mono ?_
  rintro e w1 ⟨b1, b2, b3, rfl, hcr, hg1⟩
  have HW := Lib.hid (InsW.new (i := ⟨11, a, b, c, ww, n, sign, aa, an, ac, args⟩) HS.out hcr hg1)
  clear hcr hg1 HS
  go_upto_region 2 with fail
  unfold crC at HW
  generalize w1.alloc _ = W2 at *
  generalize w.heap.size = ib at *
  generalize w1.heap.size = q at *
  obtain ⟨ad', hAD, c1⟩ := (HW.out.hM.st.reads H0.out).first hfn
  injection hAD with hAD
  subst hAD
  have c3 := HW.out.hM.st.cell1.2
  obtain ⟨i0, i1, i2, i3, i4, i5, i6, i7⟩ := boxI HW.out.hi
  obtain ⟨k0, k1, k2⟩ := boxK HW.out.hk
  obtain ⟨va, hva⟩ : ∃ z, IntKind.i64.wrap (fstK p.fns fn + a) = z := ⟨_, rfl⟩
  obtain ⟨vb, hvb⟩ : ∃ z, IntKind.i64.wrap (fstK p.fns fn + b) = z := ⟨_, rfl⟩
  have HVA := Lib.hid (show wz (fstK p.fns fn + a) = va from hva)
  have HVB := Lib.hid (show wz (fstK p.fns fn + b) = vb from hvb)
  generalize fstK p.fns fn = s at *
  go_wp2_with go_region
  refine (flow_any (HW.out.hM.cr.gr (grownBy_refl W2 none).gr_drew) _ _ _ _).mono ?_
  rintro e w3 ⟨rfl, hg3⟩
  have HG3 := Lib.hid (grownBy_trans (grownBy_refl W2 none).gr_drew hg3)
  clear hg3
  go_wp2_with fail
  refine (collect_any (D := [twoK 7 va vb (-1)].map (atK fn pc)) (HW.out.hM.st.keep (gr_alloc HG3.out _)) (some ⟨_, 0, none⟩) 1 1 rfl (one_kon (heap_alloc_new _ _)) (fun h => by cases h) (KArgs.none_ rfl) (by simp; omega)).mono ?_
  rintro e w5 ⟨rfl, hS5, hF5⟩
  have HE5 := Lib.hid (show GenP p (some ad) Sc w0 gb (L ++ (consI p.fns fn ⟨11, a, b, c, ww, n, sign, aa, an, ac, args⟩).map (atK fn pc)) w5 by rw [HC.out, HVA.out, HVB.out]; exact hS5)
  have HF5 := Lib.hid (show FrK w w5 from (FrK.gr (grownBy_trans HW.out.hg (gr_alloc HG3.out _))).trans hF5)
  go_wp2_with fail
  go_end0
  exact ⟨rfl, HE5.out, HF5.out⟩
end

end Go.Proofs.YtajmkdbokdjmeaaGreat
/- gen: insn: sums. -/
namespace Go.Proofs.YtajmkdbokdjmeaaGreat
open Go.RowKit
section
variable {p : Prg} {Sa : Option Addr} {Sc gb fn pc : Nat} {w0 w : World} {L : List Kon} (a b c ww n : Int) (sign : ByteArray) (aa : Option Addr) (an ac : Nat) (args : List Int)
set_option maxRecDepth 100000 in
set_option maxHeartbeats 16000000 in
theorem ins_3y (h0 : Gen0 p Sa Sc w0) (hS : GenP p Sa Sc w0 gb L w) (hfn : fn < p.fns.length) (hl : L.length ≤ 40000000000) (h1 : -4096 ≤ n ∧ n ≤ 4096) :
    Calls Tryz.prog 20 #[.pointer (some ⟨gb, 0, none⟩), .int .i64 fn, .int .i64 pc, insV ⟨3, a, b, c, ww, n, sign, aa, an, ac, args⟩] w fun e w' => e = .returned (.tuple #[]) ∧
      GenP p Sa Sc w0 gb (L ++ (consI p.fns fn ⟨3, a, b, c, ww, n, sign, aa, an, ac, args⟩).map (atK fn pc)) w' ∧ FrK w w' := by
  have hn : IntKind.i64.wrap n = n := by rw [IntKind.wrap_i64]; omega
  have e1 : decide ((-4096 : Int) ≤ n) = true := by simp; omega
  have e2 : decide (n ≤ 4096) = true := by simp; omega
  have HS := Lib.hid hS
  have H0 := Lib.hid h0
  have HFN := Lib.hid hfn
  obtain ⟨ad, hSa, _⟩ := (hS.reads h0).first hfn
  subst hSa
  have HC := Lib.hid (show consI p.fns fn ⟨3, a, b, c, ww, n, sign, aa, an, ac, args⟩ = [twoK 3 (wz (fstK p.fns fn + a)) (wz (fstK p.fns fn + b)) n] from (if_pos h1 : (if -4096 ≤ n ∧ n ≤ 4096 then [twoK 3 (wz (fstK p.fns fn + a)) (wz (fstK p.fns fn + b)) n] else []) = _))
  clear hS h0 h1
  unfold insV insC
  go_enter Tryz.func20, Tryz.ntmps20
  go_wp2_with fail
  refine (creators_any _ _ _).mono ?_
  rintro e w1 ⟨b1, b2, b3, rfl, hcr, hg1⟩
  have HW := Lib.hid (InsW.new (i := ⟨3, a, b, c, ww, n, sign, aa, an, ac, args⟩) HS.out hcr hg1)
  clear hcr hg1 HS
  go_upto_region 2 with fail
  unfold crC at HW
  generalize w1.alloc _ = W2 at *
  generalize w.heap.size = ib at *
  generalize w1.heap.size = q at *
  obtain ⟨ad', hAD, c1⟩ := (HW.out.hM.st.reads H0.out).first hfn
  injection hAD with hAD
  subst hAD
  have c3 := HW.out.hM.st.cell1.2
  obtain ⟨i0, i1, i2, i3, i4, i5, i6, i7⟩ := boxI HW.out.hi
  obtain ⟨k0, k1, k2⟩ := boxK HW.out.hk
  obtain ⟨va, hva⟩ : ∃ z, IntKind.i64.wrap (fstK p.fns fn + a) = z := ⟨_, rfl⟩
  obtain ⟨vb, hvb⟩ : ∃ z, IntKind.i64.wrap (fstK p.fns fn + b) = z := ⟨_, rfl⟩
  have HVA := Lib.hid (show wz (fstK p.fns fn + a) = va from hva)
  have HVB := Lib.hid (show wz (fstK p.fns fn + b) = vb from hvb)
  generalize fstK p.fns fn = s at *
  go_wp2_with go_region
  refine (flow_any (HW.out.hM.cr.gr (grownBy_refl W2 none).gr_drew) _ _ _ _).mono ?_
  rintro e w3 ⟨rfl, hg3⟩
  have HG3 := Lib.hid (grownBy_trans (grownBy_refl W2 none).gr_drew hg3)
  clear hg3
  go_wp2_with fail
  refine (collect_any (D := [twoK 3 va vb n].map (atK fn pc)) (HW.out.hM.st.keep (gr_alloc HG3.out _)) (some ⟨_, 0, none⟩) 1 1 rfl (one_kon (heap_alloc_new _ _)) (fun h => by cases h) (KArgs.none_ rfl) (by simp; omega)).mono ?_
  rintro e w5 ⟨rfl, hS5, hF5⟩
  have HE5 := Lib.hid (show GenP p (some ad) Sc w0 gb (L ++ (consI p.fns fn ⟨3, a, b, c, ww, n, sign, aa, an, ac, args⟩).map (atK fn pc)) w5 by rw [HC.out, HVA.out, HVB.out]; exact hS5)
  have HF5 := Lib.hid (show FrK w w5 from (FrK.gr (grownBy_trans HW.out.hg (gr_alloc HG3.out _))).trans hF5)
  go_wp2_with fail
  go_end0
  exact ⟨rfl, HE5.out, HF5.out⟩
set_option maxRecDepth 100000 in
set_option maxHeartbeats 16000000 in
theorem ins_3l (h0 : Gen0 p Sa Sc w0) (hS : GenP p Sa Sc w0 gb L w) (hfn : fn < p.fns.length) (_hl : L.length ≤ 40000000000) (h1 : n < -4096) :
    Calls Tryz.prog 20 #[.pointer (some ⟨gb, 0, none⟩), .int .i64 fn, .int .i64 pc, insV ⟨3, a, b, c, ww, n, sign, aa, an, ac, args⟩] w fun e w' => e = .returned (.tuple #[]) ∧
      GenP p Sa Sc w0 gb (L ++ (consI p.fns fn ⟨3, a, b, c, ww, n, sign, aa, an, ac, args⟩).map (atK fn pc)) w' ∧ FrK w w' := by
  have e1 : decide ((-4096 : Int) ≤ n) = false := by simp; omega
  have HS := Lib.hid hS
  have H0 := Lib.hid h0
  have HFN := Lib.hid hfn
  obtain ⟨ad, hSa, _⟩ := (hS.reads h0).first hfn
  subst hSa
  have HC := Lib.hid (show consI p.fns fn ⟨3, a, b, c, ww, n, sign, aa, an, ac, args⟩ = [] from (if_neg (by omega) : (if -4096 ≤ n ∧ n ≤ 4096 then [twoK 3 (wz (fstK p.fns fn + a)) (wz (fstK p.fns fn + b)) n] else []) = _))
  clear hS h0 h1
  unfold insV insC
  go_enter Tryz.func20, Tryz.ntmps20
  go_wp2_with fail
  refine (creators_any _ _ _).mono ?_
  rintro e w1 ⟨b1, b2, b3, rfl, hcr, hg1⟩
  have HW := Lib.hid (InsW.new (i := ⟨3, a, b, c, ww, n, sign, aa, an, ac, args⟩) HS.out hcr hg1)
  clear hcr hg1 HS
  go_upto_region 2 with fail
  unfold crC at HW
  generalize w1.alloc _ = W2 at *
  generalize w.heap.size = ib at *
  generalize w1.heap.size = q at *
  obtain ⟨ad', hAD, c1⟩ := (HW.out.hM.st.reads H0.out).first hfn
  injection hAD with hAD
  subst hAD
  have c3 := HW.out.hM.st.cell1.2
  obtain ⟨i0, i1, i2, i3, i4, i5, i6, i7⟩ := boxI HW.out.hi
  obtain ⟨k0, k1, k2⟩ := boxK HW.out.hk
  obtain ⟨va, hva⟩ : ∃ z, IntKind.i64.wrap (fstK p.fns fn + a) = z := ⟨_, rfl⟩
  obtain ⟨vb, hvb⟩ : ∃ z, IntKind.i64.wrap (fstK p.fns fn + b) = z := ⟨_, rfl⟩
  have HVA := Lib.hid (show wz (fstK p.fns fn + a) = va from hva)
  have HVB := Lib.hid (show wz (fstK p.fns fn + b) = vb from hvb)
  generalize fstK p.fns fn = s at *
  go_wp2_with go_region
  go_end0
  rw [HC.out, List.map_nil, List.append_nil]
  exact ⟨rfl, HW.out.hM.st.keep (by repeat (first | with_reducible exact grownBy_refl _ _ | with_reducible assumption | with_reducible refine World.grownBy.gr_drew ?_ | with_reducible refine World.grownBy.gr_set ?_ (by simp) _ | with_reducible refine gr_alloc ?_ _)), FrK.gr (grownBy_trans HW.out.hg (by repeat (first | with_reducible exact grownBy_refl _ _ | with_reducible assumption | with_reducible refine World.grownBy.gr_drew ?_ | with_reducible refine World.grownBy.gr_set ?_ (by simp) _ | with_reducible refine gr_alloc ?_ _)))⟩
set_option maxRecDepth 100000 in
set_option maxHeartbeats 16000000 in
theorem ins_3h (h0 : Gen0 p Sa Sc w0) (hS : GenP p Sa Sc w0 gb L w) (hfn : fn < p.fns.length) (_hl : L.length ≤ 40000000000) (h1 : -4096 ≤ n) (h2 : 4096 < n) :
    Calls Tryz.prog 20 #[.pointer (some ⟨gb, 0, none⟩), .int .i64 fn, .int .i64 pc, insV ⟨3, a, b, c, ww, n, sign, aa, an, ac, args⟩] w fun e w' => e = .returned (.tuple #[]) ∧
      GenP p Sa Sc w0 gb (L ++ (consI p.fns fn ⟨3, a, b, c, ww, n, sign, aa, an, ac, args⟩).map (atK fn pc)) w' ∧ FrK w w' := by
  have e1 : decide ((-4096 : Int) ≤ n) = true := by simp; omega
  have e2 : decide (n ≤ 4096) = false := by simp; omega
  have HS := Lib.hid hS
  have H0 := Lib.hid h0
  have HFN := Lib.hid hfn
  obtain ⟨ad, hSa, _⟩ := (hS.reads h0).first hfn
  subst hSa
  have HC := Lib.hid (show consI p.fns fn ⟨3, a, b, c, ww, n, sign, aa, an, ac, args⟩ = [] from (if_neg (by omega) : (if -4096 ≤ n ∧ n ≤ 4096 then [twoK 3 (wz (fstK p.fns fn + a)) (wz (fstK p.fns fn + b)) n] else []) = _))
  clear hS h0 h1 h2
  unfold insV insC
  go_enter Tryz.func20, Tryz.ntmps20
  go_wp2_with fail
  refine (creators_any _ _ _).mono ?_
  rintro e w1 ⟨b1, b2, b3, rfl, hcr, hg1⟩
  have HW := Lib.hid (InsW.new (i := ⟨3, a, b, c, ww, n, sign, aa, an, ac, args⟩) HS.out hcr hg1)
  clear hcr hg1 HS
  go_upto_region 2 with fail
  unfold crC at HW
  generalize w1.alloc _ = W2 at *
  generalize w.heap.size = ib at *
  generalize w1.heap.size = q at *
  obtain ⟨ad', hAD, c1⟩ := (HW.out.hM.st.reads H0.out).first hfn
  injection hAD with hAD
  subst hAD
  have c3 := HW.out.hM.st.cell1.2
  obtain ⟨i0, i1, i2, i3, i4, i5, i6, i7⟩ := boxI HW.out.hi
  obtain ⟨k0, k1, k2⟩ := boxK HW.out.hk
  obtain ⟨va, hva⟩ : ∃ z, IntKind.i64.wrap (fstK p.fns fn + a) = z := ⟨_, rfl⟩
  obtain ⟨vb, hvb⟩ : ∃ z, IntKind.i64.wrap (fstK p.fns fn + b) = z := ⟨_, rfl⟩
  have HVA := Lib.hid (show wz (fstK p.fns fn + a) = va from hva)
  have HVB := Lib.hid (show wz (fstK p.fns fn + b) = vb from hvb)
  generalize fstK p.fns fn = s at *
  go_wp2_with go_region
  go_end0
  rw [HC.out, List.map_nil, List.append_nil]
  exact ⟨rfl, HW.out.hM.st.keep (by repeat (first | with_reducible exact grownBy_refl _ _ | with_reducible assumption | with_reducible refine World.grownBy.gr_drew ?_ | with_reducible refine World.grownBy.gr_set ?_ (by simp) _ | with_reducible refine gr_alloc ?_ _)), FrK.gr (grownBy_trans HW.out.hg (by repeat (first | with_reducible exact grownBy_refl _ _ | with_reducible assumption | with_reducible refine World.grownBy.gr_drew ?_ | with_reducible refine World.grownBy.gr_set ?_ (by simp) _ | with_reducible refine gr_alloc ?_ _)))⟩
set_option maxRecDepth 100000 in
set_option maxHeartbeats 16000000 in
theorem ins_4y (h0 : Gen0 p Sa Sc w0) (hS : GenP p Sa Sc w0 gb L w) (hfn : fn < p.fns.length) (hl : L.length ≤ 40000000000) (h1 : 0 ≤ n ∧ n ≤ 4096) :
    Calls Tryz.prog 20 #[.pointer (some ⟨gb, 0, none⟩), .int .i64 fn, .int .i64 pc, insV ⟨4, a, b, c, ww, n, sign, aa, an, ac, args⟩] w fun e w' => e = .returned (.tuple #[]) ∧
      GenP p Sa Sc w0 gb (L ++ (consI p.fns fn ⟨4, a, b, c, ww, n, sign, aa, an, ac, args⟩).map (atK fn pc)) w' ∧ FrK w w' := by
  have hn : IntKind.i64.wrap n = n := by rw [IntKind.wrap_i64]; omega
  have e1 : decide ((0 : Int) ≤ n) = true := by simp; omega
  have e2 : decide (n ≤ 4096) = true := by simp; omega
  have HS := Lib.hid hS
  have H0 := Lib.hid h0
  have HFN := Lib.hid hfn
  obtain ⟨ad, hSa, _⟩ := (hS.reads h0).first hfn
  subst hSa
  have HC := Lib.hid (show consI p.fns fn ⟨4, a, b, c, ww, n, sign, aa, an, ac, args⟩ = [twoK 4 (wz (fstK p.fns fn + a)) (wz (fstK p.fns fn + b)) n] from (if_pos h1 : (if 0 ≤ n ∧ n ≤ 4096 then [twoK 4 (wz (fstK p.fns fn + a)) (wz (fstK p.fns fn + b)) n] else []) = _))
  clear hS h0 h1
  unfold insV insC
  go_enter Tryz.func20, Tryz.ntmps20
  go_wp2_with fail
  refine (creators_any _ _ _).mono ?_
  rintro e w1 ⟨b1, b2, b3, rfl, hcr, hg1⟩
  have HW := Lib.hid (InsW.new (i := ⟨4, a, b, c, ww, n, sign, aa, an, ac, args⟩) HS.out hcr hg1)
  clear hcr hg1 HS
  go_upto_region 2 with fail
  unfold crC at HW
  generalize w1.alloc _ = W2 at *
  generalize w.heap.size = ib at *
  generalize w1.heap.size = q at *
  obtain ⟨ad', hAD, c1⟩ := (HW.out.hM.st.reads H0.out).first hfn
  injection hAD with hAD
  subst hAD
  have c3 := HW.out.hM.st.cell1.2
  obtain ⟨i0, i1, i2, i3, i4, i5, i6, i7⟩ := boxI HW.out.hi
  obtain ⟨k0, k1, k2⟩ := boxK HW.out.hk
  obtain ⟨va, hva⟩ : ∃ z, IntKind.i64.wrap (fstK p.fns fn + a) = z := ⟨_, rfl⟩
  obtain ⟨vb, hvb⟩ : ∃ z, IntKind.i64.wrap (fstK p.fns fn + b) = z := ⟨_, rfl⟩
  have HVA := Lib.hid (show wz (fstK p.fns fn + a) = va from hva)
  have HVB := Lib.hid (show wz (fstK p.fns fn + b) = vb from hvb)
  generalize fstK p.fns fn = s at *
  go_wp2_with go_region
  refine (flow_any (HW.out.hM.cr.gr (grownBy_refl W2 none).gr_drew) _ _ _ _).mono ?_
  rintro e w3 ⟨rfl, hg3⟩
  have HG3 := Lib.hid (grownBy_trans (grownBy_refl W2 none).gr_drew hg3)
  clear hg3
  go_wp2_with fail
  refine (collect_any (D := [twoK 4 va vb n].map (atK fn pc)) (HW.out.hM.st.keep (gr_alloc HG3.out _)) (some ⟨_, 0, none⟩) 1 1 rfl (one_kon (heap_alloc_new _ _)) (fun h => by cases h) (KArgs.none_ rfl) (by simp; omega)).mono ?_
  rintro e w5 ⟨rfl, hS5, hF5⟩
  have HE5 := Lib.hid (show GenP p (some ad) Sc w0 gb (L ++ (consI p.fns fn ⟨4, a, b, c, ww, n, sign, aa, an, ac, args⟩).map (atK fn pc)) w5 by rw [HC.out, HVA.out, HVB.out]; exact hS5)
  have HF5 := Lib.hid (show FrK w w5 from (FrK.gr (grownBy_trans HW.out.hg (gr_alloc HG3.out _))).trans hF5)
  go_wp2_with fail
  go_end0
  exact ⟨rfl, HE5.out, HF5.out⟩
set_option maxRecDepth 100000 in
set_option maxHeartbeats 16000000 in
theorem ins_4l (h0 : Gen0 p Sa Sc w0) (hS : GenP p Sa Sc w0 gb L w) (hfn : fn < p.fns.length) (_hl : L.length ≤ 40000000000) (h1 : n < 0) :
    Calls Tryz.prog 20 #[.pointer (some ⟨gb, 0, none⟩), .int .i64 fn, .int .i64 pc, insV ⟨4, a, b, c, ww, n, sign, aa, an, ac, args⟩] w fun e w' => e = .returned (.tuple #[]) ∧
      GenP p Sa Sc w0 gb (L ++ (consI p.fns fn ⟨4, a, b, c, ww, n, sign, aa, an, ac, args⟩).map (atK fn pc)) w' ∧ FrK w w' := by
  have e1 : decide ((0 : Int) ≤ n) = false := by simp; omega
  have HS := Lib.hid hS
  have H0 := Lib.hid h0
  have HFN := Lib.hid hfn
  obtain ⟨ad, hSa, _⟩ := (hS.reads h0).first hfn
  subst hSa
  have HC := Lib.hid (show consI p.fns fn ⟨4, a, b, c, ww, n, sign, aa, an, ac, args⟩ = [] from (if_neg (by omega) : (if 0 ≤ n ∧ n ≤ 4096 then [twoK 4 (wz (fstK p.fns fn + a)) (wz (fstK p.fns fn + b)) n] else []) = _))
  clear hS h0 h1
  unfold insV insC
  go_enter Tryz.func20, Tryz.ntmps20
  go_wp2_with fail
  refine (creators_any _ _ _).mono ?_
  rintro e w1 ⟨b1, b2, b3, rfl, hcr, hg1⟩
  have HW := Lib.hid (InsW.new (i := ⟨4, a, b, c, ww, n, sign, aa, an, ac, args⟩) HS.out hcr hg1)
  clear hcr hg1 HS
  go_upto_region 2 with fail
  unfold crC at HW
  generalize w1.alloc _ = W2 at *
  generalize w.heap.size = ib at *
  generalize w1.heap.size = q at *
  obtain ⟨ad', hAD, c1⟩ := (HW.out.hM.st.reads H0.out).first hfn
  injection hAD with hAD
  subst hAD
  have c3 := HW.out.hM.st.cell1.2
  obtain ⟨i0, i1, i2, i3, i4, i5, i6, i7⟩ := boxI HW.out.hi
  obtain ⟨k0, k1, k2⟩ := boxK HW.out.hk
  obtain ⟨va, hva⟩ : ∃ z, IntKind.i64.wrap (fstK p.fns fn + a) = z := ⟨_, rfl⟩
  obtain ⟨vb, hvb⟩ : ∃ z, IntKind.i64.wrap (fstK p.fns fn + b) = z := ⟨_, rfl⟩
  have HVA := Lib.hid (show wz (fstK p.fns fn + a) = va from hva)
  have HVB := Lib.hid (show wz (fstK p.fns fn + b) = vb from hvb)
  generalize fstK p.fns fn = s at *
  go_wp2_with go_region
  go_end0
  rw [HC.out, List.map_nil, List.append_nil]
  exact ⟨rfl, HW.out.hM.st.keep (by repeat (first | with_reducible exact grownBy_refl _ _ | with_reducible assumption | with_reducible refine World.grownBy.gr_drew ?_ | with_reducible refine World.grownBy.gr_set ?_ (by simp) _ | with_reducible refine gr_alloc ?_ _)), FrK.gr (grownBy_trans HW.out.hg (by repeat (first | with_reducible exact grownBy_refl _ _ | with_reducible assumption | with_reducible refine World.grownBy.gr_drew ?_ | with_reducible refine World.grownBy.gr_set ?_ (by simp) _ | with_reducible refine gr_alloc ?_ _)))⟩
set_option maxRecDepth 100000 in
set_option maxHeartbeats 16000000 in
theorem ins_4h (h0 : Gen0 p Sa Sc w0) (hS : GenP p Sa Sc w0 gb L w) (hfn : fn < p.fns.length) (_hl : L.length ≤ 40000000000) (h1 : 0 ≤ n) (h2 : 4096 < n) :
    Calls Tryz.prog 20 #[.pointer (some ⟨gb, 0, none⟩), .int .i64 fn, .int .i64 pc, insV ⟨4, a, b, c, ww, n, sign, aa, an, ac, args⟩] w fun e w' => e = .returned (.tuple #[]) ∧
      GenP p Sa Sc w0 gb (L ++ (consI p.fns fn ⟨4, a, b, c, ww, n, sign, aa, an, ac, args⟩).map (atK fn pc)) w' ∧ FrK w w' := by
  have e1 : decide ((0 : Int) ≤ n) = true := by simp; omega
  have e2 : decide (n ≤ 4096) = false := by simp; omega
  have HS := Lib.hid hS
  have H0 := Lib.hid h0
  have HFN := Lib.hid hfn
  obtain ⟨ad, hSa, _⟩ := (hS.reads h0).first hfn
  subst hSa
  have HC := Lib.hid (show consI p.fns fn ⟨4, a, b, c, ww, n, sign, aa, an, ac, args⟩ = [] from (if_neg (by omega) : (if 0 ≤ n ∧ n ≤ 4096 then [twoK 4 (wz (fstK p.fns fn + a)) (wz (fstK p.fns fn + b)) n] else []) = _))
  clear hS h0 h1 h2
  unfold insV insC
  go_enter Tryz.func20, Tryz.ntmps20
  go_wp2_with fail
  refine (creators_any _ _ _).mono ?_
  rintro e w1 ⟨b1, b2, b3, rfl, hcr, hg1⟩
  have HW := Lib.hid (InsW.new (i := ⟨4, a, b, c, ww, n, sign, aa, an, ac, args⟩) HS.out hcr hg1)
  clear hcr hg1 HS
  go_upto_region 2 with fail
  unfold crC at HW
  generalize w1.alloc _ = W2 at *
  generalize w.heap.size = ib at *
  generalize w1.heap.size = q at *
  obtain ⟨ad', hAD, c1⟩ := (HW.out.hM.st.reads H0.out).first hfn
  injection hAD with hAD
  subst hAD
  have c3 := HW.out.hM.st.cell1.2
  obtain ⟨i0, i1, i2, i3, i4, i5, i6, i7⟩ := boxI HW.out.hi
  obtain ⟨k0, k1, k2⟩ := boxK HW.out.hk
  obtain ⟨va, hva⟩ : ∃ z, IntKind.i64.wrap (fstK p.fns fn + a) = z := ⟨_, rfl⟩
  obtain ⟨vb, hvb⟩ : ∃ z, IntKind.i64.wrap (fstK p.fns fn + b) = z := ⟨_, rfl⟩
  have HVA := Lib.hid (show wz (fstK p.fns fn + a) = va from hva)
  have HVB := Lib.hid (show wz (fstK p.fns fn + b) = vb from hvb)
  generalize fstK p.fns fn = s at *
  go_wp2_with go_region
  go_end0
  rw [HC.out, List.map_nil, List.append_nil]
  exact ⟨rfl, HW.out.hM.st.keep (by repeat (first | with_reducible exact grownBy_refl _ _ | with_reducible assumption | with_reducible refine World.grownBy.gr_drew ?_ | with_reducible refine World.grownBy.gr_set ?_ (by simp) _ | with_reducible refine gr_alloc ?_ _)), FrK.gr (grownBy_trans HW.out.hg (by repeat (first | with_reducible exact grownBy_refl _ _ | with_reducible assumption | with_reducible refine World.grownBy.gr_drew ?_ | with_reducible refine World.grownBy.gr_set ?_ (by simp) _ | with_reducible refine gr_alloc ?_ _)))⟩
end

end Go.Proofs.YtajmkdbokdjmeaaGreat
