/- Add, walked. -/
import Derived.Test.YtpgefmhjhiemkaaJf
namespace Go.Proofs.Ytpgefmhjhiemkaa
open Go.RowKit
/-- What Add makes of its set's runs. -/
def RpIs (W : World) (v : Value) (S' : List (Int × Int)) (v' : Value) (w' : World) : Prop := OwS 0 w' v' S' ∧ W.grownBy w' v.ownBlock ∧ ∀ g, v'.ownBlock = some g → v.ownBlock = some g ∨ W.heap.size ≤ g
theorem rep_at {W : World} {m : Nat} {A : Option Addr} {c : Nat} {S : List (Int × Int)} (h : OwS 0 W (.slice A S.length c) S) (hl : S.length ≤ 1000001) (hm : W.heap[m]? = some (.cells #[.slice A S.length c] 44 (0, 0))) (hne : ∀ g, (Value.slice A S.length c).ownBlock = some g → g ≠ m)
    (Wx : World) (b i d : Nat) (J f t : Int) (g : W.grownBy Wx none) (hb : Wx.heap[b]? = some (.cells (spC (f, t)) 47 (0, 0))) (hbW : W.heap.size ≤ b) (hd : d ≤ 2) (hi : i + d ≤ S.length) (hJ : J = (i : Int) + (d : Int)) :
    Calls Try.prog 33 #[.slice A S.length c, .int .i64 i, .int .i64 J, .slice (some ⟨b, 0, none⟩) 1 1] Wx (fun e w9 => ∃ A9 n9 c9, e = .returned (.slice A9 n9 c9) ∧ Hid (RpIs W (.slice A S.length c) (S.take i ++ [(f, t)] ++ S.drop (i + d)) (.slice A9 n9 c9) w9) ∧ w9.cell? ⟨m, 0, none⟩ = some (.slice A S.length c) ∧ w9.frozen? ⟨m, 0, none⟩ = false) :=
  (replace_any _ b i d J S (f, t) Wx (h.gr g) hl hd hi hJ hb (fun k hk e => by have := (h.lt k hk).2; omega)).mono fun e w9 ⟨v', he, ho, hg, hn⟩ => by
    obtain ⟨A9, c9, hv, _, _, _⟩ := ho.spn
    subst hv
    have hgt := grownBy_trans (gr_weak g) hg
    have e9 := (hgt.block m (lt_of_heap hm) (fun e => hne m e.symm rfl)).trans hm
    exact ⟨A9, _, c9, he, Lib.hid ⟨ho, hgt, fun k hk => (hn k hk).imp id (Nat.le_trans g.size)⟩, by simp [World.cell?, e9], by simp [World.frozen?, e9]⟩
theorem Add13_nil (x : Int) (W : World) :
    Calls Try.prog 14 #[.pointer none, .int .i64 x] W fun e w' => e = .returned (.bool false) ∧ W.grownBy w' none := by
  go_enter Try.func14, Try.ntmps14
  go_wp2_with fail
  go_ret
  exact ⟨rfl, grownBy_refl _ _⟩
set_option maxRecDepth 100000 in
set_option maxHeartbeats 4000000 in
theorem add_no (F : Nat → Prop) (m : Nat) (E : List Int) (x : Int) (W : World) (h : SetAt W F m E) (hx : ¬ (inS x ∧ x ∉ E)) :
    Calls Try.prog 14 #[.pointer (some ⟨m, 0, none⟩), .int .i64 x] W fun e w' => e = .returned (.bool false) ∧ W.grownBy w' none := by
  have HH := Lib.hid (Has13 F (some m) E x W h)
  unfold ptrV at HH
  rw [Option.map_some] at HH
  by_cases hr : inS x
  · have hm : x ∈ E := Decidable.byContradiction fun hn => hx ⟨hr, hn⟩
    rw [decide_eq_true hm] at HH
    have HR := Lib.hid (decide_eq_true hr)
    clear h hx hr hm
    go_enter Try.func14, Try.ntmps14
    go_wp2_with fail
    refine (inRange_any x W).mono ?_
    rintro e w1 ⟨rfl, rfl⟩
    rw [HR.out]
    go_wp2_with fail
    refine HH.out.mono ?_
    rintro e w1 ⟨rfl, hg⟩
    have HG := Lib.hid hg
    clear hg
    go_wp2_with fail
    go_ret
    exact ⟨rfl, HG.out⟩
  · have HR := Lib.hid (decide_eq_false hr)
    clear h hx hr
    go_enter Try.func14, Try.ntmps14
    go_wp2_with fail
    refine (inRange_any x W).mono ?_
    rintro e w1 ⟨rfl, rfl⟩
    rw [HR.out]
    go_wp2_with fail
    go_ret
    exact ⟨rfl, grownBy_refl _ _⟩
set_option maxRecDepth 100000 in
set_option maxHeartbeats 4000000 in
theorem add_yes (F : Nat → Prop) (m : Nat) (E : List Int) (x : Int) (W : World) (h : SetAt W F m E) (hr : inS x) (hx : x ∉ E) :
    Calls Try.prog 14 #[.pointer (some ⟨m, 0, none⟩), .int .i64 x] W fun e w' => e = .returned (.bool true) ∧ Upd W w' F m (insI x E) := by
  have HH := Lib.hid (Has13 F (some m) E x W h)
  unfold ptrV at HH
  rw [Option.map_some, decide_eq_false hx] at HH
  have HR := Lib.hid (decide_eq_true hr)
  have HS := Lib.hid h
  obtain ⟨v, S, s1, s2, s3, s4, s5⟩ := h.body
  have hin := SpIn.of s1 (by rw [s2]; exact h.ok.2)
  obtain ⟨A, c, rfl, hc, _, hs⟩ := s4.spn
  have hml := lt_of_heap s3
  have hsl := sp_short s1 hin
  have HO := Lib.hid s4
  have HOK := Lib.hid s1
  have HE := Lib.hid s2
  have HIN := Lib.hid hin
  have HMB := Lib.hid s3
  have HF := Lib.hid s5
  have HSP := Lib.hid hs
  obtain ⟨hx0, hx1⟩ := hr
  have HNX := Lib.hid hx
  have HRP := Lib.hid (rep_at s4 hsl s3 (fun g hg => (s5 g hg).2))
  clear h s1 s2 s3 s4 s5 hin hs hx
  go_enter Try.func14, Try.ntmps14
  go_wp2_with fail
  refine (inRange_any x W).mono ?_
  rintro e w1 ⟨rfl, rfl⟩
  rw [HR.out]
  go_wp2_with fail
  refine HH.out.mono ?_
  rintro e w1 ⟨rfl, hg⟩
  have HG := Lib.hid hg
  have hm1 : w1.cell? ⟨m, 0, none⟩ = some (.slice A S.length c) := by
    have e := (hg.block m hml (by simp)).trans HMB.out
    simp [World.cell?, e]
  clear hg
  go_wp2_with fail
  refine (find_any A S.length c S (x - 1) w1 rfl (HSP.out.keep HG.out) HOK.out (by omega)).mono ?_
  rintro e w2 ⟨i, rfl, hF, hg⟩
  have HFN := Lib.hid hF
  have hil := hF.le
  have HG2 := Lib.hid (grownBy_trans HG.out hg)
  have hz2 := HG2.out.size
  have hm2 : w2.cell? ⟨m, 0, none⟩ = some (.slice A S.length c) := by
    have e := (HG2.out.block m hml (by simp)).trans HMB.out
    simp [World.cell?, e]
  have hml2 : m < w2.heap.size := by omega
  clear hg hm1 hF HG
  have HADD := Lib.hid (show ∀ S', SpOk S' → (∀ z, z ∈ els S' ↔ z ∈ els S ∨ z = x) → els S' = insI x E from fun S' h1 h2 => rise_ext (els_rise h1) (insI_rise HS.out.ok.1 HNX.out) fun z => by rw [h2, insI_mem, HE.out, or_comm])
  have HOKI := Lib.hid (show SetOk (insI x E) by
    have h1 := HS.out.ok.add x
    rwa [show (addI13 E x).1 = insI x E by rw [addI13, if_pos ⟨hx0, hx1, HNX.out⟩]] at h1)
  have HADD := Lib.hid (show ∀ S', SpOk S' → (∀ z, z ∈ els S' ↔ z ∈ els S ∨ z = x) → els S' = insI x E from fun S' h1 h2 => rise_ext (els_rise h1) (insI_rise HS.out.ok.1 HNX.out) fun z => by rw [h2, insI_mem, HE.out, or_comm])
  have HOKI := Lib.hid (show SetOk (insI x E) by
    have h1 := HS.out.ok.add x
    rwa [show (addI13 E x).1 = insI x E by rw [addI13, if_pos ⟨hx0, hx1, HNX.out⟩]] at h1)
  by_cases hi : i < S.length
  · obtain ⟨g, c', e', hbg, hg, hcc, hcl⟩ := HO.out.parts (fun e => by rw [e] at hi; simp at hi)
    simp only [Value.slice.injEq] at e'
    obtain ⟨rfl, _, rfl⟩ := e'
    have hp := List.getElem?_eq_getElem hi
    generalize S[i] = p at hp
    obtain ⟨k0, k1⟩ := hcl i p hp
    have c0 : w2.cell? ⟨g, i * 2, none⟩ = some (.int .i64 p.1) := (World.cell?_of_block (HG2.out.block g hg (by simp))).trans k0
    have c1 : w2.cell? ⟨g, i * 2 + 1, none⟩ = some (.int .i64 p.2) := (World.cell?_of_block (HG2.out.block g hg (by simp))).trans k1
    have hgl2 : g < w2.heap.size := by omega
    have hpp := HOK.out.le hp
    obtain ⟨hp0, hp1⟩ := HIN.out p (List.mem_of_getElem? hp)
    have hpi := HFN.out.hi i p hp (Nat.le_refl _)
    have HP := Lib.hid hp
    clear k0 k1 hp
    by_cases hA : p.2 = x - 1
    · by_cases hi2 : i + 1 < S.length
      · have hq := List.getElem?_eq_getElem hi2
        generalize S[i + 1] = q at hq
        obtain ⟨k0, k1⟩ := hcl (i + 1) q hq
        have d0 : w2.cell? ⟨g, (i + 1) * 2, none⟩ = some (.int .i64 q.1) := (World.cell?_of_block (HG2.out.block g hg (by simp))).trans k0
        have d1 : w2.cell? ⟨g, (i + 1) * 2 + 1, none⟩ = some (.int .i64 q.2) := (World.cell?_of_block (HG2.out.block g hg (by simp))).trans k1
        obtain ⟨hq0, hq1⟩ := HIN.out q (List.mem_of_getElem? hq)
        have hqq := HOK.out.le hq
        have hlt := HOK.out.lt HP.out hq (by omega)
        have HQ := Lib.hid hq
        clear k0 k1 hq hcl
        have HAp := Lib.hid hA
        by_cases hB : q.1 = x + 1
        · have HBq := Lib.hid hB
          obtain ⟨p1, p2⟩ := p
          obtain ⟨q1, q2⟩ := q
          simp only at hA hB c0 c1 d0 d1 hpp hp0 hp1 hpi hq0 hq1 hqq hlt
          subst hA hB
          have HAD := Lib.hid (add_both HOK.out HP.out HAp.out HQ.out HBq.out)
          go_wp2_with fail
          go_region_with ((go_at_call 33; refine (HRP.out _ (w2.heap.size + 1) i 2 _ p1 q2 (gr_alloc (gr_alloc HG2.out _) _).gr_drew (two_new0 w2 _ _) (by omega) (by omega) (by omega) (by omega)).mono ?_; rintro e w9 ⟨A9, n9, c9, rfl, HX9, hm9, hf9⟩; clear hm2))
          all_goals
            go_wp2_with fail
            go_ret
            exact ⟨rfl, upd_store2 HS.out HF.out HX9.out.2.1 HX9.out.1 HX9.out.2.2 HAD.out.1 (HADD.out _ HAD.out.1 HAD.out.2) HOKI.out 0⟩
        · have HBq := Lib.hid (show ∀ r, S[i + 1]? = some r → x + 1 < r.1 from fun r hr => by rw [HQ.out] at hr; injection hr with hr; subst hr; omega)
          have t2 : (q.1 == x + 1) = false := by rw [beq_eq_false_iff_ne]; exact hB
          obtain ⟨p1, p2⟩ := p
          simp only at hA c0 c1 hpp hp0 hp1 hpi hlt
          subst hA
          clear hB
          have HAD := Lib.hid (add_left HOK.out HP.out HAp.out HBq.out)
          go_wp2_with fail
          go_region_with ((go_at_call 33; refine (HRP.out _ (w2.heap.size + 1) i 1 _ p1 x (gr_alloc (gr_alloc HG2.out _) _).gr_drew (two_new0 w2 _ _) (by omega) (by omega) (by omega) (by omega)).mono ?_; rintro e w9 ⟨A9, n9, c9, rfl, HX9, hm9, hf9⟩; clear hm2))
          all_goals
            go_wp2_with fail
            go_ret
            exact ⟨rfl, upd_store2 HS.out HF.out HX9.out.2.1 HX9.out.1 HX9.out.2.2 HAD.out.1 (HADD.out _ HAD.out.1 HAD.out.2) HOKI.out 0⟩
      · have HBq := Lib.hid (show ∀ r, S[i + 1]? = some r → x + 1 < r.1 from fun r hr => by have := (List.getElem?_eq_some_iff.1 hr).1; omega)
        have HAp := Lib.hid hA
        have t2 : decide ((i : Int) + 1 < (S.length : Int)) = false := decide_eq_false (by omega)
        obtain ⟨p1, p2⟩ := p
        simp only at hA c0 c1 hpp hp0 hp1 hpi
        subst hA
        clear hcl
        have HAD := Lib.hid (add_left HOK.out HP.out HAp.out HBq.out)
        go_wp2_with fail
        go_region_with ((go_at_call 33; refine (HRP.out _ (w2.heap.size + 1) i 1 _ p1 x (gr_alloc (gr_alloc HG2.out _) _).gr_drew (two_new0 w2 _ _) (by omega) (by omega) (by omega) (by omega)).mono ?_; rintro e w9 ⟨A9, n9, c9, rfl, HX9, hm9, hf9⟩; clear hm2))
        all_goals
          go_wp2_with fail
          go_ret
          exact ⟨rfl, upd_store2 HS.out HF.out HX9.out.2.1 HX9.out.1 HX9.out.2.2 HAD.out.1 (HADD.out _ HAD.out.1 HAD.out.2) HOKI.out 0⟩
    · have t1 : (p.2 == x - 1) = false := by rw [beq_eq_false_iff_ne]; exact hA
      have hpx : x < p.1 := by
        refine Decidable.byContradiction fun hn => HNX.out ?_
        rw [← HE.out]
        exact els_mem.2 ⟨p, List.mem_of_getElem? HP.out, by omega, by omega⟩
      clear hcl
      by_cases hB : p.1 = x + 1
      · have HBq := Lib.hid hB
        obtain ⟨p1, p2⟩ := p
        simp only at hA hB c0 c1 hpp hp0 hp1 hpi t1 hpx
        subst hB
        clear hA
        have HAD := Lib.hid (add_right HOK.out HFN.out HP.out HBq.out)
        go_wp2_with fail
        go_region_with ((go_at_call 33; refine (HRP.out _ (w2.heap.size + 1) i 1 _ x p2 (gr_alloc (gr_alloc HG2.out _) _).gr_drew (two_new0 w2 _ _) (by omega) (by omega) (by omega) (by omega)).mono ?_; rintro e w9 ⟨A9, n9, c9, rfl, HX9, hm9, hf9⟩; clear hm2))
        all_goals
          go_wp2_with fail
          go_ret
          exact ⟨rfl, upd_store2 HS.out HF.out HX9.out.2.1 HX9.out.1 HX9.out.2.2 HAD.out.1 (HADD.out _ HAD.out.1 HAD.out.2) HOKI.out 0⟩
      · have HBq := Lib.hid (show ∀ r, S[i]? = some r → x + 1 < r.1 from fun r hr => by rw [HP.out] at hr; injection hr with hr; subst hr; omega)
        have t2 : (p.1 == x + 1) = false := by rw [beq_eq_false_iff_ne]; exact hB
        clear hA hB
        have HAD := Lib.hid (add_alone HOK.out HFN.out HBq.out)
        go_wp2_with fail
        go_region_with ((go_at_call 33; refine (HRP.out _ (w2.heap.size + 1) i 0 _ x x (gr_alloc (gr_alloc HG2.out _) _).gr_drew (two_new0 w2 _ _) (by omega) (by omega) (by omega) (by omega)).mono ?_; rintro e w9 ⟨A9, n9, c9, rfl, HX9, hm9, hf9⟩; clear hm2))
        all_goals
          go_wp2_with fail
          go_ret
          exact ⟨rfl, upd_store2 HS.out HF.out HX9.out.2.1 HX9.out.1 HX9.out.2.2 HAD.out.1 (HADD.out _ HAD.out.1 HAD.out.2) HOKI.out 0⟩
  · obtain rfl : i = S.length := by omega
    have HAD := Lib.hid (add_alone HOK.out HFN.out (fun q hq => by have := (List.getElem?_eq_some_iff.1 hq).1; omega))
    go_wp2_with fail
    go_region_with ((go_at_call 33; refine (HRP.out _ (w2.heap.size + 1) S.length 0 _ x x (gr_alloc (gr_alloc HG2.out _) _).gr_drew (two_new0 w2 _ _) (by omega) (by omega) (by omega) (by omega)).mono ?_; rintro e w9 ⟨A9, n9, c9, rfl, HX9, hm9, hf9⟩; clear hm2))
    all_goals
      go_wp2_with fail
      go_ret
      exact ⟨rfl, upd_store2 HS.out HF.out HX9.out.2.1 HX9.out.1 HX9.out.2.2 HAD.out.1 (HADD.out _ HAD.out.1 HAD.out.2) HOKI.out 0⟩

end Go.Proofs.Ytpgefmhjhiemkaa
