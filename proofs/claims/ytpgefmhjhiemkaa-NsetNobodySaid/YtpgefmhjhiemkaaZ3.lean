/- The document's runs, walked: Spans. -/
import Derived.Test.YtpgefmhjhiemkaaZ2
import Derived.Deep.DeepCutAuto
namespace Go.Proofs.Ytpgefmhjhiemkaa
open Go.RowKit
def prevI (l : List Int) (q : Nat) : Option Int := if q = 0 then none else l[q - 1]?
/-- Does a run begin at q, and does one end there? -/
def g1 (l : List Int) (q : Nat) (y : Int) : Bool := !((prevI l q).any fun z => decide (y = z + 1))
def g2 (l : List Int) (q : Nat) (y : Int) : Bool := !((l[q + 1]?).any fun u => decide (u = y + 1))
def opt (b : Bool) (y : Int) : List Int := if b = true then [y] else []
theorem spG_step {l : List Int} {q : Nat} {y : Int} (hy : l[q]? = some y) : spG (prevI l q) (l.drop q) = opt (g1 l q y) y ++ opt (g2 l q y) y ++ spG (prevI l (q + 1)) (l.drop (q + 1)) := by
  have hq := (List.getElem?_eq_some_iff.1 hy).1
  have e : l.drop q = y :: l.drop (q + 1) := by
    rw [List.drop_eq_getElem_cons hq]
    congr 1
    exact (List.getElem?_eq_some_iff.1 hy).2
  rw [e, spG]
  have e2 : (l.drop (q + 1)).head? = l[q + 1]? := by rw [List.head?_drop]
  have e3 : prevI l (q + 1) = some y := by rw [prevI, if_neg (by omega)]; exact hy
  rw [e2, e3]
  unfold opt g1 g2
  cases (prevI l q).any fun z => decide (y = z + 1) <;> cases (l[q + 1]?).any fun u => decide (u = y + 1) <;> rfl
theorem g1_first (l : List Int) (y : Int) : g1 l 0 y = true := rfl
theorem g1_at {l : List Int} {q : Nat} {y z : Int} (hz : l[q]? = some z) : g1 l (q + 1) y = (y != z + 1) := by
  have e : prevI l (q + 1) = some z := by rw [prevI, if_neg (by omega)]; exact hz
  unfold g1
  rw [e]
  by_cases h : y = z + 1 <;> simp [h]
theorem g2_last {l : List Int} {q : Nat} {y : Int} (h : l.length = q + 1) : g2 l q y = true := by
  unfold g2
  rw [List.getElem?_eq_none (by omega)]
  rfl
theorem g2_at {l : List Int} {q : Nat} {y u : Int} (hu : l[q + 1]? = some u) : g2 l q y = (u != y + 1) := by
  unfold g2
  rw [hu]
  by_cases h : u = y + 1 <;> simp [h]
theorem opt_len (b : Bool) (y : Int) : (opt b y).length ≤ 1 := by unfold opt; split <;> simp
/-- The ints o are owned since w. -/
def Own1 (w : World) (o : Value) (l : List Int) (W : World) : Prop := W.ownsRow w.heap.size 3 1 o l.length (intsV l) ∧ w.grownBy W none
theorem Own1.drewN {w W : World} {o : Value} {l : List Int} (h : Own1 w o l W) (n : Nat) : Own1 w o l (W.drewN n) := ⟨h.1, gr_drewN h.2 n⟩
set_option maxRecDepth 100000 in
set_option maxHeartbeats 4000000 in
theorem r13_Spans_any (A : Option Addr) (n c : Nat) (l : List Int) (w : World) (hA : IntsAt w A n c l) (hl : l.length ≤ 10000000000) (hS : ∀ x ∈ l, inS x) :
    Calls Try.prog 18 #[.slice A n c] w fun e w' => RetInts w none (spG none l) e w' := by
  have HA := Lib.hid hA
  obtain rfl : n = l.length := hA.1
  have HS := Lib.hid (fun (k : Nat) (x : Int) (h : l[k]? = some x) => hS x (List.mem_of_getElem? h))
  clear hA hS
  go_enter Try.func18, Try.ntmps18
  go_wp2_with fail
  go_loopw [4, 3] (fun i o wr => ∃ (q : Nat) (t : List Int), q ≤ l.length ∧ t.length ≤ 2 * q ∧ i = .int .i64 q ∧ t ++ spG (prevI l q) (l.drop q) = spG none l ∧ Own1 w o t wr) (fun i _ _ => l.length - (intOf i).toNat)
  case atStart => exact ⟨0, [], Nat.zero_le _, Nat.zero_le _, rfl, rfl, own_nil _ _ _ _, grownBy_refl _ _⟩
  case round =>
    obtain ⟨q, t, hq, ht, rfl, hT, hO⟩ := hrel
    have HO := Lib.hid hO
    have HT := Lib.hid hT
    clear hO hT
    by_cases hlt : q < l.length
    · obtain ⟨ad, rfl, _⟩ := HA.out.at_ hlt
      have HX := Lib.hid (show l[q]? = some l[q] from List.getElem?_eq_getElem hlt)
      generalize l[q] = y at HX
      have HC := Lib.hid (fun (W : World) (g : w.grownBy W none) (k : Nat) (z : Int) (h : l[k]? = some z) => (HA.out.keep g).cellOf h)
      have hy := HS.out q y HX.out
      have HST := Lib.hid (spG_step HX.out)
      have ht2 : t.length ≤ 30000000000 := by omega
      go_upto_region 5 with fail
      go_cut [3, 25] (fun o b wx => b = .bool (g1 l q y) ∧ Own1 w o t wx)
      case first =>
        have hc1 := HC.out wr HO.out.2 q y HX.out
        by_cases hq0 : q = 0
        · go_quiet (fail)
          go_wp2_with fail
          go_meet
          case rel => exact ⟨by rw [hq0]; rfl, HO.out.drewN _⟩
        · obtain ⟨p, hp⟩ : ∃ p, q = p + 1 := ⟨q - 1, by omega⟩
          have hpl : p < l.length := by omega
          have HZ := Lib.hid (show l[p]? = some l[p] from List.getElem?_eq_getElem hpl)
          generalize l[p] = z at HZ
          have hz := HS.out p z HZ.out
          have hc2 := HC.out wr HO.out.2 p z HZ.out
          have hw1 : IntKind.i64.wrap ((q : Int) - 1) = (p : Int) := by rw [IntWalk.i64_in _ (by omega)]; omega
          have hw2 : IntKind.i64.wrap (z + 1) = z + 1 := IntWalk.i64_in _ (by unfold inS at hz; omega)
          have he0 : ((q : Int) == 0) = false := by simp; omega
          have HP := Lib.hid hp
          clear hp hq0
          go_quiet (fail)
          go_wp2_with fail
          go_meet
          case rel => exact ⟨by rw [HP.out, g1_at HZ.out], HO.out.drewN _⟩
      case rest =>
      obtain ⟨rfl, hO⟩ := hcut
      have HO1 := Lib.hid hO
      clear hO HO
      obtain ⟨b1, hb1⟩ : ∃ b, b = g1 l q y := ⟨_, rfl⟩
      rw [← hb1]
      have HB1 := Lib.hid hb1
      clear hb1
      go_upto_if 25 with fail
      go_cut [3] (fun o wx => Own1 w o (t ++ opt b1 y) wx)
      case first =>
        have hc1 := HC.out wc HO1.out.2 q y HX.out
        have hs1 := HO1.out.2.size
        cases b1
        · go_wp2_with fail
          go_meet
          case rel => exact (by rw [show t ++ opt false y = t from List.append_nil _]; exact HO1.out)
        · go_wp2_with (at_builtin; go_must (refine app_int rfl (.tmp 26) (.tmp 31) rfl w.heap.size u3 _ t rfl (HO1.out.1.alloc _) wc.heap.size y _ rfl (heap_alloc_new wc (.cells #[.int .i64 y] 3)) (by omega) (by simp only [World.size_alloc]; omega) ?_; intro v3 w3 ho3 hg3; have HG3 := Lib.hid (gr_own (gr_alloc HO1.out.2 _) hg3 (own_is HO1.out.1)); have HO3 := Lib.hid ho3; clear ho3 hg3))
          go_meet
          case rel => exact ⟨by simpa [opt] using HO3.out, HG3.out⟩
      case rest =>
      have HO2 := Lib.hid hcut
      clear hcut HO1
      obtain ⟨t1, ht1⟩ : ∃ t1, t1 = t ++ opt b1 y := ⟨_, rfl⟩
      rw [← ht1] at HO2
      have hl1 : t1.length ≤ 2 * q + 1 := by rw [ht1, List.length_append]; have := opt_len b1 y; omega
      have HT1 := Lib.hid ht1
      clear ht1
      go_upto_region 7 with fail
      go_cut [3, 50] (fun o b wx => b = .bool (g2 l q y) ∧ Own1 w o t1 wx)
      case first =>
        have hc1 := HC.out wc HO2.out.2 q y HX.out
        have hw0 : IntKind.i64.wrap ((l.length : Int) - 1) = (l.length : Int) - 1 := IntWalk.i64_in _ (by omega)
        by_cases hq0 : l.length = q + 1
        · have HQ := Lib.hid hq0
          have he0 : ((q : Int) == (l.length : Int) - 1) = true := by simp; omega
          clear hq0
          go_quiet (fail)
          go_wp2_with fail
          go_meet
          case rel => exact ⟨by rw [g2_last HQ.out], HO2.out.drewN _⟩
        · obtain ⟨p, hp⟩ : ∃ p, p = q + 1 := ⟨q + 1, rfl⟩
          have hpl : p < l.length := by omega
          have HZ := Lib.hid (show l[p]? = some l[p] from List.getElem?_eq_getElem hpl)
          generalize l[p] = u at HZ
          have hu := HS.out p u HZ.out
          have hc2 := HC.out wc HO2.out.2 p u HZ.out
          have hw1 : IntKind.i64.wrap ((q : Int) + 1) = (p : Int) := by rw [IntWalk.i64_in _ (by omega)]; omega
          have hw2 : IntKind.i64.wrap (y + 1) = y + 1 := IntWalk.i64_in _ (by unfold inS at hy; omega)
          have he0 : ((q : Int) == (l.length : Int) - 1) = false := by simp; omega
          have HP := Lib.hid hp
          rw [HP.out] at HZ
          clear hp hq0
          go_quiet (fail)
          go_wp2_with fail
          go_meet
          case rel => exact ⟨by rw [g2_at HZ.out], HO2.out.drewN _⟩
      case rest =>
      obtain ⟨rfl, hO⟩ := hcut
      have HO3 := Lib.hid hO
      clear hO HO2
      obtain ⟨b2, hb2⟩ : ∃ b, b = g2 l q y := ⟨_, rfl⟩
      rw [← hb2]
      have HB2 := Lib.hid hb2
      clear hb2
      have HFIN := Lib.hid (show (t1 ++ opt b2 y) ++ spG (prevI l (q + 1)) (l.drop (q + 1)) = spG none l by
        have h := HT.out
        rw [HST.out, ← HB1.out, ← HB2.out, ← List.append_assoc, ← List.append_assoc, ← HT1.out] at h
        exact h)
      go_upto_if 50 with fail
      have hc1 := HC.out wc HO3.out.2 q y HX.out
      have hs1 := HO3.out.2.size
      cases b2
      · go_wp2_with fail
        go_roundw
        case rel => exact ⟨q + 1, t1 ++ opt false y, by omega, by rw [show t1 ++ opt false y = t1 from List.append_nil _]; omega, by go_num, HFIN.out, by rw [show t1 ++ opt false y = t1 from List.append_nil _]; exact HO3.out⟩
        case measure => simp [intOf]; omega
      · go_wp2_with (at_builtin; go_must (refine app_int rfl (.tmp 51) (.tmp 56) rfl w.heap.size u3 _ t1 rfl (HO3.out.1.alloc _) wc.heap.size y _ rfl (heap_alloc_new wc (.cells #[.int .i64 y] 3)) (by omega) (by simp only [World.size_alloc]; omega) ?_; intro v3 w3 ho3 hg3; have HG3 := Lib.hid (gr_own (gr_alloc HO3.out.2 _) hg3 (own_is HO3.out.1)); have HO4 := Lib.hid ho3; clear ho3 hg3))
        go_roundw
        case rel => exact ⟨q + 1, t1 ++ opt true y, by omega, by simp [opt]; omega, by go_num, HFIN.out, by simpa [opt] using HO4.out, HG3.out⟩
        case measure => simp [intOf]; omega
    · have HE := Lib.hid (show l.drop q = [] from List.drop_eq_nil_of_le (by omega))
      have h := HT.out
      rw [HE.out] at h
      rw [show spG (prevI l q) [] = [] from rfl, List.append_nil] at h
      subst h
      go_wp2_with fail
      go_ret
      exact RetInts.own HO.out.1 (Nat.le_refl _) HO.out.2

end Go.Proofs.Ytpgefmhjhiemkaa
