/- Union. -/
import Derived.Test.YtpgefmhjhiemkaaJa
import Derived.Deep.RegionWith
namespace Go.Proofs.Ytpgefmhjhiemkaa
open Go.RowKit
theorem adds_same {E D : List Int} (hE : SetOk E) (h : ∀ x ∈ D, x ∈ E) : addsI E D = E := hE.adds.ext hE fun x => by
  rw [addsI_mem]
  exact ⟨fun hx => hx.elim id fun hx => h x hx.1, .inl⟩
/-- The set at m holds other runs now. -/
theorem upd_store {W w3 : World} {F : Nat → Prop} {m : Nat} {E E' : List Int} {v : Value} {L : List (Int × Int)} (h : SetAt W F m E) (g : W.grownBy w3 none) (ho : OwS W.heap.size w3 v L) (hL : SpOk L) (hE : els L = E') (hok : SetOk E') (n : Nat) :
    Upd W ((w3.setCell ⟨m, 0, none⟩ v).drewN n) F m E' := by
  have hm := h.lt m h.own
  obtain ⟨v0, S, _, _, h3, _, _⟩ := h.body
  have h3' := (g.block m hm (by simp)).trans h3
  have hlt := ho.lt
  have hsz := g.size
  refine ⟨fun k => k = m ∨ v.ownBlock = some k, ⟨.inl rfl, fun k hk => ?_, hok, v, L, hL, hE, ?_, (ho.low (Nat.zero_le _)).at_ fun g' hg' => ?_, fun g' hg' => ⟨.inr hg', by have := (hlt g' hg').1; omega⟩⟩, ⟨g.os, g.tape, g.output, ?_, fun k hk hn => ?_⟩, fun k hk => ?_⟩
  · show k < (w3.setCell ⟨m, 0, none⟩ v).heap.size
    rw [show (w3.setCell ⟨m, 0, none⟩ v).heap.size = w3.heap.size by simp [World.setCell]]
    rcases hk with rfl | hk
    · omega
    · exact (hlt k hk).2
  · show (w3.setCell ⟨m, 0, none⟩ v).heap[m]? = _
    simp [World.setCell, Array.getElem?_modify, h3']
  · exact Below.heap_setCell _ _ _ _ (by have := (hlt g' hg').1; show g' ≠ m; omega)
  · show W.heap.size ≤ (w3.setCell ⟨m, 0, none⟩ v).heap.size
    rw [show (w3.setCell ⟨m, 0, none⟩ v).heap.size = w3.heap.size by simp [World.setCell]]
    exact hsz
  · exact (Below.heap_setCell _ _ _ _ (show k ≠ m from fun e => hn (e ▸ h.own))).trans (g.block k hk (by simp))
  · rcases hk with rfl | hk
    · exact .inl h.own
    · exact .inr (hlt k hk).1
theorem upd_same {W w3 : World} {F : Nat → Prop} {m : Nat} {E : List Int} (h : SetAt W F m E) (g : W.grownBy w3 none) : Upd W w3 F m E := ⟨F, h.gr g, Touch.of_gr g, fun _ hk => .inl hk⟩
/-- Where Union's loop stands: the first q runs are in. -/
def UnRel (S T : List (Int × Int)) (W : World) (i : Value) (wr : World) : Prop :=
  ∃ q : Nat, i = .int .i64 q ∧ q ≤ T.length ∧ (∀ x ∈ T.take q, covB S x = true) ∧ W.grownBy wr none
theorem Union13_nil (G : Nat → Prop) (o : Option Nat) (D : List Int) (W : World) (_k : SetP W G o D) :
    Calls Try.prog 24 #[.pointer none, ptrV o] W fun e w' => e = .returned (.bool false) ∧ W.grownBy w' none := by
  obtain ⟨p, hp⟩ : ∃ p, p = ptrV o := ⟨_, rfl⟩
  rw [← hp]
  clear hp
  go_enter Try.func24, Try.ntmps24
  go_wp2_with fail
  go_ret
  exact ⟨rfl, grownBy_refl _ _⟩
set_option maxRecDepth 100000 in
set_option maxHeartbeats 4000000 in
theorem Union13 (F G : Nat → Prop) (m : Nat) (o : Option Nat) (E D : List Int) (W : World) (h : SetAt W F m E) (k : SetP W G o D) (_hd : ∀ i, F i → G i → False) :
    Calls Try.prog 24 #[.pointer (some ⟨m, 0, none⟩), ptrV o] W fun e w' => e = .returned (.bool (newsI E D)) ∧ Upd W w' F m (addsI E D) := by
  have HH := Lib.hid h
  have HDK := Lib.hid k.ok
  obtain ⟨v, S, s1, s2, s3, s4, _⟩ := h.body
  have hin := SpIn.of s1 (by rw [s2]; exact h.ok.2)
  obtain ⟨A, c, rfl, hc, _, hs⟩ := s4.spn
  obtain ⟨B, d, T, k1, rfl, k3, k4, k5, k6, _, kall, kt⟩ := all_any2 k
  have hml := lt_of_heap s3
  have hsl := sp_short s1 hin
  have HB := Lib.hid kall
  have HS := Lib.hid hs
  have HT := Lib.hid k3
  have HSO := Lib.hid s1
  have HSE := Lib.hid s2
  have HTO := Lib.hid k1
  have HSI := Lib.hid hin
  have HTI := Lib.hid k4
  have HMB := Lib.hid s3
  have HTB := Lib.hid kt
  obtain ⟨b, hb⟩ : ∃ b, b = newsI E (els T) := ⟨_, rfl⟩
  obtain ⟨E', hE'⟩ : ∃ E', E' = addsI E (els T) := ⟨_, rfl⟩
  rw [← hb, ← hE']
  have HBB := Lib.hid hb
  have HEE := Lib.hid hE'
  obtain ⟨p, hp⟩ : ∃ p, p = ptrV o := ⟨_, rfl⟩
  rw [← hp] at HB ⊢
  have HP0 := Lib.hid hp
  clear h k s1 s2 s3 s4 hin hs k1 k3 k4 kall hb hE' hp kt
  go_enter Try.func24, Try.ntmps24
  go_wp2_with fail
  refine (HB.out _ (grownBy_refl _ _)).mono ?_
  rintro e w1 ⟨rfl, rfl⟩
  go_wp2_with fail
  go_loopw [12] (fun i wr => UnRel S T W i wr) (fun i _ => T.length - (intOf i).toNat)
  case atStart => exact ⟨0, rfl, Nat.zero_le _, by simp, grownBy_refl _ _⟩
  case round =>
    obtain ⟨q, rfl, hq, hcv, hg⟩ := hrel
    have HCV := Lib.hid hcv
    have HG := Lib.hid hg
    clear hcv hg
    by_cases hlt : q < T.length
    · have hx := List.getElem?_eq_getElem hlt
      generalize T[q] = x at hx
      obtain ⟨bd, rfl⟩ := HT.out.some_ hlt
      obtain ⟨e0, e1⟩ := sp_cells (HT.out.keep HG.out) hx
      have hxx := HTO.out.le hx
      have HX := Lib.hid hx
      have hm0 : wr.cell? ⟨m, 0, none⟩ = some (.slice A S.length c) := by
        have e := (HG.out.block m hml (by simp)).trans HMB.out
        simp [World.cell?, e]
      clear hx
      obtain ⟨w5, hw5⟩ : ∃ y, y = wr := ⟨_, rfl⟩
      subst hw5
      go_wp2_with fail
      generalize hw7 : w5.alloc (.cells #[.int .i64 x.1, .int .i64 x.2] 47) = w7
      have HG7 := Lib.hid (show W.grownBy w7 none by rw [← hw7]; exact gr_alloc HG.out _)
      obtain ⟨d0, d1⟩ := box2 (show w7.heap[w5.heap.size]? = some (.cells (spC x) 47 (0, 0)) by rw [← hw7]; exact heap_alloc_new w5 _)
      have hm7 : w7.cell? ⟨m, 0, none⟩ = some (.slice A S.length c) := by
        have e := (HG7.out.block m hml (by simp)).trans HMB.out
        simp [World.cell?, e]
      clear hw7 e0 e1 hm0
      go_still_tail 5, (by kernel_rfl)
      change wpList _ _ _ _ _ w7.drew
      go_wp2_with fail
      refine (covers_any A S.length c S x w7.drew rfl (HS.out.keep HG7.out.gr_drew) HSO.out (by omega) hxx).mono ?_
      rintro e w8 ⟨rfl, hg8⟩
      have HG8 := Lib.hid (grownBy_trans HG7.out.gr_drew hg8)
      clear hg8 d0 d1 hm7
      rcases hcx : covB S x
      · have HCX := Lib.hid hcx
        obtain ⟨t, ho, ht⟩ := HTB.out (fun e => by rw [e] at hlt; exact absurd hlt (Nat.not_lt_zero _))
        obtain rfl : p = .pointer (some ⟨t, 0, none⟩) := by rw [HP0.out, ho]; rfl
        have hxT := List.mem_of_getElem? HX.out
        have HNW := Lib.hid (show ∃ z ∈ els T, z ∉ E from by
          refine Decidable.byContradiction fun hno => ?_
          have : covB S x = true := (covB_iff HSO.out hxx).2 fun z h1 h2 => by
            rw [HSE.out]
            exact Decidable.byContradiction fun hz => hno ⟨z, els_mem.2 ⟨x, hxT, h1, h2⟩, hz⟩
          rw [HCX.out] at this
          cases this)
        have HBT := Lib.hid (show b = true by
          obtain ⟨z, hz, hn⟩ := HNW.out
          rw [HBB.out]
          exact List.any_eq_true.2 ⟨z, hz, decide_eq_true ⟨HDK.out.2 z hz, hn⟩⟩)
        have hm8 : w8.cell? ⟨m, 0, none⟩ = some (.slice A S.length c) := by
          have e := (HG8.out.block m hml (by simp)).trans HMB.out
          simp [World.cell?, e]
        have ht8 : w8.cell? ⟨t, 0, none⟩ = some (.slice (some bd) T.length d) := by
          have e := (HG8.out.block t (lt_of_heap ht) (by simp)).trans ht
          simp [World.cell?, e]
        clear hcx ho ht hxT
        go_wp2_with fail
        have HMG := Lib.hid (show Calls Try.prog 37 #[.slice A S.length c, .slice (some bd) T.length d] w8.drew (fun e w9 => ∃ A9 c9 L, e = .returned (.slice A9 L.length c9) ∧ Hid (OwS w8.drew.heap.size w9 (.slice A9 L.length c9) L) ∧ Hid (W.grownBy w9 none) ∧ Hid (SpOk L) ∧ Hid (els L = E') ∧ w9.cell? ⟨m, 0, none⟩ = some (.slice A S.length c) ∧ w9.frozen? ⟨m, 0, none⟩ = false) from (merge_any A (some bd) c d S T w8.drew (HS.out.keep HG8.out.gr_drew) (HT.out.keep HG8.out.gr_drew) hc k6 HSO.out HTO.out HSI.out HTI.out).mono fun e w9 ⟨v, L, he, ho9, hg9, hL, hin, hz⟩ => by
          subst he
          obtain ⟨A9, c9, hv, _, _, _⟩ := ho9.spn
          subst hv
          have hg := grownBy_trans HG8.out.gr_drew hg9
          have e := (hg.block m hml (by simp)).trans HMB.out
          refine ⟨A9, c9, L, rfl, Lib.hid ho9, Lib.hid hg, Lib.hid hL, Lib.hid (SetOk.ext ⟨els_rise hL, hin.els⟩ (by rw [HEE.out]; exact HH.out.ok.adds) fun z => ?_), by simp [World.cell?, e], by simp [World.frozen?, e]⟩
          rw [hz, HEE.out, addsI_mem, HSE.out]
          exact ⟨fun h => h.imp id fun h => ⟨h, HDK.out.2 z h⟩, fun h => h.imp id fun h => h.1⟩)
        go_region_with ((go_at_call 37; refine HMG.out.mono ?_; rintro e w9 ⟨A9, c9, L, rfl, HO9, HG9, HL, HE9, hm9, hf9⟩; clear hm8 ht8))
        all_goals
          go_wp2_with fail
          go_ret
          have hs8 := HG8.out.size
          exact ⟨by rw [HBT.out]; rfl, upd_store HH.out HG9.out (HO9.out.low hs8) HL.out HE9.out (by rw [HEE.out]; exact HH.out.ok.adds) 0⟩
      · have HCX := Lib.hid hcx
        clear hcx
        go_wp2_with fail
        go_roundw
        case rel => exact ⟨q + 1, by go_num, by omega, fun y hy => by
          rw [List.take_add_one, HX.out] at hy
          rcases List.mem_append.1 hy with hy | hy
          · exact HCV.out y hy
          · obtain rfl := List.mem_singleton.1 hy
            exact HCX.out, HG8.out⟩
        case measure => simp [intOf]; omega
    · obtain rfl : q = T.length := by omega
      have HIN := Lib.hid (show ∀ z ∈ els T, z ∈ E from fun z hz => by
        obtain ⟨x, hx, h1, h2⟩ := els_mem.1 hz
        rw [← HSE.out]
        have hh := HCV.out x (by rw [List.take_length]; exact hx)
        exact (covB_iff HSO.out ((spOk_iff.1 HTO.out).1 x hx)).1 hh z h1 h2)
      have HBF := Lib.hid (show b = false by rw [HBB.out]; exact news_none HIN.out)
      have HEF := Lib.hid (show E' = E by rw [HEE.out]; exact adds_same HH.out.ok HIN.out)
      go_wp2_with fail
      go_ret
      exact ⟨by rw [HBF.out]; rfl, by rw [HEF.out]; exact upd_same HH.out HG.out⟩

end Go.Proofs.Ytpgefmhjhiemkaa
