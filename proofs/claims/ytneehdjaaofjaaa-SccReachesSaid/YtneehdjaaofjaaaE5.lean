/- scc: the visitor, and a visit. -/
import Derived.Test.YtneehdjaaofjaaaE4
import Derived.Deep.DeepCutAuto
import Derived.Deep.LoopGhost
namespace Go.Proofs.Ytneehdjaaofjaaa
open Go.RowKit
def nI (l : List Nat) : List Int := l.map fun (n : Nat) => (n : Int)
theorem nI_app (a b : List Nat) : nI (a ++ b) = nI a ++ nI b := List.map_append
theorem nI_len (a : List Nat) : (nI a).length = a.length := List.length_map _
theorem nI_mem {a : List Nat} {b : Nat} : (b : Int) ∈ nI a ↔ b ∈ a := by
  unfold nI
  simp only [List.mem_map]
  constructor
  · rintro ⟨x, h, e⟩
    obtain rfl : x = b := by omega
    exact h
  · intro h
    exact ⟨b, h, rfl⟩
/-- What a visitor's function captures, in blocks that O names. -/
structure VstP (w : World) (A : Option Addr) (N c : Nat) (G : List (List Int)) (r pv pg ps : Nat) (O : Nat → Prop) : Prop where
  made ::
  hv : w.heap[pv]? = some (.cells #[.slice (some ⟨r, 0, none⟩) N N] 43 (0, 0))
  hg : w.heap[pg]? = some (.cells #[.slice A N c] 38 (0, 0))
  hs : w.heap[ps]? = some (.cells #[.func (.func 35) #[] #[.pointer (some ⟨pv, 0, none⟩), .pointer (some ⟨pg, 0, none⟩), .pointer (some ⟨ps, 0, none⟩)]] 52 (0, 0))
  ne : O pv ∧ O pg ∧ O ps
  gr : GrP w A G O
theorem VstP.keep {w w' : World} {A : Option Addr} {N c : Nat} {G : List (List Int)} {r pv pg ps : Nat} {O : Nat → Prop} (h : VstP w A N c G r pv pg ps O) (g : ∀ k, O k → k < w.heap.size → w'.heap[k]? = w.heap[k]?) : VstP w' A N c G r pv pg ps O :=
  ⟨(g _ h.ne.1 (lt_of_heap h.hv)).trans h.hv, (g _ h.ne.2.1 (lt_of_heap h.hg)).trans h.hg, (g _ h.ne.2.2 (lt_of_heap h.hs)).trans h.hs, h.ne, h.gr.keep g⟩
theorem VstP.mono {w : World} {A : Option Addr} {N c : Nat} {G : List (List Int)} {r pv pg ps : Nat} {O U : Nat → Prop} (h : VstP w A N c G r pv pg ps O) (k : ∀ x, O x → x < w.heap.size → U x) : VstP w A N c G r pv pg ps U :=
  ⟨h.hv, h.hg, h.hs, ⟨k _ h.ne.1 (lt_of_heap h.hv), k _ h.ne.2.1 (lt_of_heap h.hg), k _ h.ne.2.2 (lt_of_heap h.hs)⟩, h.gr.mono k⟩
abbrev VstAt (w : World) (A : Option Addr) (N c : Nat) (G : List (List Int)) (r pv pg ps : Nat) : Prop := VstP w A N c G r pv pg ps fun k => some k ≠ some r
theorem VstAt.keep {w w' : World} {A : Option Addr} {N c : Nat} {G : List (List Int)} {r pv pg ps : Nat} (h : VstAt w A N c G r pv pg ps) (g : w.grownBy w' (some r)) : VstAt w' A N c G r pv pg ps := VstP.keep h fun k ho hk => g.block k hk ho
theorem VstP.cells {w : World} {A : Option Addr} {N c : Nat} {G : List (List Int)} {r pv pg ps : Nat} {O : Nat → Prop} (h : VstP w A N c G r pv pg ps O) :
    w.cell? ⟨pv, 0, none⟩ = some (.slice (some ⟨r, 0, none⟩) N N) ∧ w.cell? ⟨pg, 0, none⟩ = some (.slice A N c) ∧ w.cell? ⟨ps, 0, none⟩ = some (.func (.func 35) #[] #[.pointer (some ⟨pv, 0, none⟩), .pointer (some ⟨pg, 0, none⟩), .pointer (some ⟨ps, 0, none⟩)]) :=
  ⟨by simp [World.cell?, h.hv], by simp [World.cell?, h.hg], by simp [World.cell?, h.hs]⟩
/-- What a visit tells. -/
def VisP (ps : List (Nat × Nat)) (wb : World) (base r N : Nat) (M : List Bool) (L : List Int) (i : Nat) (e : Ending) (W' : World) : Prop :=
  ∃ (new : List Nat) (K : List Bool) (v' : Value), e = .returned v' ∧ Hid (Vis ps M i new K) ∧ Hid (new.length + fcnt K = fcnt M) ∧ Hid (MkAt base W' r N K) ∧ Hid (OwN wb.heap.size W' v' (L ++ nI new)) ∧ Hid (wb.grownBy W' (some r))
theorem gr_moreR {a b c : World} {r : Nat} (h : a.grownBy b (some r)) {o : Option Nat} (g : b.grownBy c o) (ho : ∀ k, o = some k → a.heap.size ≤ k ∨ k = r) : a.grownBy c (some r) :=
  ⟨g.os.trans h.os, g.tape.trans h.tape, g.output.trans h.output, Nat.le_trans h.size g.size, fun k hk hn => (g.block k (Nat.lt_of_lt_of_le hk h.size) (fun e => by
    rcases ho k e.symm with h1 | h1
    · omega
    · exact hn (by rw [h1]))).trans (h.block k hk hn)⟩
theorem gr_cell {w w' : World} {o : Option Nat} (g : w.grownBy w' o) {a : Addr} {v : Value} (h : w.cell? a = some v) (hne : some a.block ≠ o) : w'.cell? a = some v :=
  (World.cell?_of_block (g.block _ (World.block_lt_of_cell? w _ h) hne)).trans h
theorem IntsAt.keepO {w w' : World} {A : Option Addr} {n c : Nat} {l : List Int} {o : Option Nat} (h : IntsAt w A n c l) (g : w.grownBy w' o) (hB : ∀ bd, A = some bd → l ≠ [] → some bd.block ≠ o) : IntsAt w' A n c l :=
  h.to fun hl bd e => by
    subst e
    exact g.block _ (h.lt hl) (hB _ rfl hl)
set_option maxRecDepth 100000 in
set_option maxHeartbeats 4000000 in
theorem visit_done (ps : List (Nat × Nat)) (N c base r pv pg pf : Nat) (A : Option Addr) (G : List (List Int)) (wb W : World) (hV : VstAt wb A N c G r pv pg pf) (M : List Bool) (L : List Int) (v : Value) (i : Nat)
    (hM : MkAt base W r N M) (hi : i < N) (hO : OwN wb.heap.size W v L) (hg : wb.grownBy W (some r)) (hm : mk M i) :
    Calls Try.prog 35 #[.int .i64 i, v, .pointer (some ⟨pv, 0, none⟩), .pointer (some ⟨pg, 0, none⟩), .pointer (some ⟨pf, 0, none⟩)] W (VisP ps wb base r N M L i) := by
  obtain ⟨c1, c2, c3⟩ := (VstAt.keep hV hg).cells
  have hc := hM.cell hm
  have HM := Lib.hid hM
  have HO := Lib.hid hO
  have HG := Lib.hid hg
  have HMM := Lib.hid hm
  clear hV hM hO hg hm
  go_enter Try.func35, Try.ntmps35
  go_wp2_with fail
  go_ret
  exact ⟨[], M, v, rfl, Vis.done HMM.out, Lib.hid (by simp), HM, Lib.hid (by simpa [nI] using HO.out), HG⟩
set_option maxRecDepth 100000 in
set_option maxHeartbeats 4000000 in
theorem visit_any (ps : List (Nat × Nat)) (N c base r pv pg pf : Nat) (A : Option Addr) (G : List (List Int)) (wb : World) (hV : VstAt wb A N c G r pv pg pf) (hK : GrK (fun a b => (a, b) ∈ ps) N G) (hS : Short 1000000000000 G) (hr : r < wb.heap.size) :
    ∀ (k : Nat) (M : List Bool) (L : List Int) (v : Value) (W : World) (i : Nat), fcnt M ≤ k → M.length = N → i < N → MkAt base W r N M → OwN wb.heap.size W v L → L.length + fcnt M ≤ 1000000 → wb.grownBy W (some r) →
    Calls Try.prog 35 #[.int .i64 i, v, .pointer (some ⟨pv, 0, none⟩), .pointer (some ⟨pg, 0, none⟩), .pointer (some ⟨pf, 0, none⟩)] W (VisP ps wb base r N M L i) := by
  intro k
  induction k with
  | zero =>
    intro M L v W i hf hl hi hM hO hb hg
    by_cases hm : mk M i
    · exact visit_done ps N c base r pv pg pf A G wb W hV M L v i hM hi hO hg hm
    · have := fcnt_set (not_mk (by omega) hm)
      omega
  | succ k ih =>
    intro M L v W i hf hl hi hM hO hb hg
    by_cases hm : mk M i
    · exact visit_done ps N c base r pv pg pf A G wb W hV M L v i hM hi hO hg hm
    have hfc := fcnt_set (not_mk (by omega) hm)
    have hfl := not_mk (by omega) hm
    obtain ⟨c1, c2, c3⟩ := (VstAt.keep hV hg).cells
    have hcl := hM.cell hfl
    have hfr := hM.fr i
    have HST := Lib.hid (hM.set i true)
    have HO := Lib.hid hO
    have HB := Lib.hid hb
    have HF := Lib.hid hf
    have HFC := Lib.hid hfc
    have HNM := Lib.hid hm
    have HML := Lib.hid hl
    have HIH := Lib.hid ih
    have HV := Lib.hid hV
    have HKK := Lib.hid hK
    have HBS := Lib.hid hM.lt.1
    have HG1 := Lib.hid (gr_moreR hg HST.out.2 (fun k hk => .inr (by injection hk with hk; exact hk.symm)))
    have hrow := List.getElem?_eq_getElem (show i < G.length by rw [hK.len]; exact hi)
    generalize G[i]'_ = row at hrow
    have HROW := Lib.hid hrow
    have hrl := hS i row hrow
    obtain ⟨ad, B, d, rfl, had, hcb, hI, hB⟩ := HV.out.gr i row hrow
    have hc4 := gr_cell HG1.out hcb (by rw [add_block]; exact had)
    have HI := Lib.hid hI
    have HO1 := Lib.hid (HO.out.row HST.out.2 (by
      rcases hv : v.ownBlock with _ | g
      · exact .inl rfl
      · refine .inr fun e => ?_
        injection e with e
        have := (HO.out.lt g hv).1
        omega))
    have HC4 := Lib.hid hc4
    have HB9 := Lib.hid hB
    clear hf hl hM hO hb hg hm hfc hfl ih hV hK hS hrow hI hB hc4 hcb
    go_enter Try.func35, Try.ntmps35
    go_upto_region 4 with fail
    have HM1 := Lib.hid HST.out.1
    clear HST HO c1 c2 c3 hcl hfr
    generalize W.setCell ⟨r, i, none⟩ (.bool true) = W1 at *
    obtain ⟨c1, c2, c3⟩ := (VstAt.keep HV.out HG1.out).cells
    have hc4 := HC4.out
    clear HC4
    go_wp2_with fail
    go_loopw [23, 1] (fun q l wr => ∃ (q' : Nat) (new : List Nat) (K : List Bool), q' ≤ row.length ∧ q = .int .i64 q' ∧ Hid (Kids ps M i ((row.take q').map Int.toNat) new K) ∧ Hid (new.length + fcnt K + 1 = fcnt M) ∧ Hid (MkAt base wr r N K) ∧ Hid (OwN wb.heap.size wr l (L ++ nI new)) ∧ Hid (wb.grownBy wr (some r))) (fun q _ _ => row.length - (intOf q).toNat)
    case atStart => exact ⟨0, [], _, Nat.zero_le _, rfl, Kids.first ps M i, Lib.hid (by have := HFC.out; simp; omega), HM1, Lib.hid (by simpa [nI] using HO1.out), HG1⟩
    case round =>
      obtain ⟨q, new, K, hq, rfl, HKD, HCN, HMK, HOK, HGK⟩ := hrel
      by_cases hlt : q < row.length
      · clear c1 c2 c3 hc4
        obtain ⟨c1, c2, c3⟩ := (VstAt.keep HV.out HGK.out).cells
        have hx := List.getElem?_eq_getElem hlt
        obtain ⟨bd, rfl, hx9⟩ := HI.out.at_ hlt
        obtain ⟨j, hxj, hj, hR⟩ := HKK.out.row i row HROW.out _ (List.getElem_mem hlt)
        rw [hxj] at hx
        have HX := Lib.hid hx
        have hc1 := (HI.out.keepO HGK.out HB9.out).cellOf hx
        have HRJ := Lib.hid hR
        have HKL := Lib.hid (HKD.out.seg.len.trans (by rw [List.length_set, HML.out]))
        clear hx hx9 hxj hR
        have HC := Lib.hid (HIH.out K (L ++ nI new) u1 wr j (by have := HF.out; have := HCN.out; omega) HKL.out hj HMK.out HOK.out (by rw [List.length_append, nI_len]; have := HB.out; have := HCN.out; omega) HGK.out)
        go_wp2_with fail
        refine HC.out.mono ?_
        rintro e w5 ⟨new2, K2, v2, rfl, HV2, HC2, HM2, HO2, HG2⟩
        go_wp2_with fail
        go_roundw
        case rel => exact ⟨q + 1, new ++ new2, K2, by omega, by go_num, by
          have h := HKD.out.next (by rw [HML.out]; exact hi) HNM.out HRJ.out HV2.out
          rw [List.take_add_one, HX.out, List.map_append]
          exact h, Lib.hid (by rw [List.length_append]; have := HC2.out; have := HCN.out; omega), HM2, Lib.hid (by rw [nI_app, ← List.append_assoc]; exact HO2.out), HG2⟩
        case measure => simp [intOf]; omega
      · obtain rfl : q = row.length := by omega
        rw [List.take_length] at HKD
        have HLL := Lib.hid (show (L ++ nI new).length ≤ 1000000 by rw [List.length_append, nI_len]; have := HB.out; have := HCN.out; omega)
        have HSZ := Lib.hid HGK.out.size
        clear c1 c2 c3 hc4
        go_wp2_with (at_builtin; go_must (refine app_one rfl (.tmp 32) (.tmp 34) rfl wb.heap.size u1 (L ++ nI new) rfl (HOK.out.gr (gr_alloc (grownBy_refl wr none) _)) wr.heap.size (i : Int) (0, 0) rfl (heap_alloc_new wr (.cells #[.int .i64 (i : Int)] 3)) (by have := HLL.out; omega) (by simp; have := HSZ.out; omega) ?_; intro v4 w4 ho4 hg4))
        go_ret
        have hob : ∀ g, u1.ownBlock = some g → wb.heap.size ≤ g := fun g hg => (HOK.out.lt g hg).1
        refine ⟨new ++ [i], K, v4, rfl, Lib.hid (HKD.out.end (by rw [HML.out]; exact hi) HNM.out (fun b hb => ?_)), Lib.hid (by rw [List.length_append, List.length_singleton]; have := HCN.out; omega), Lib.hid ?_, Lib.hid (by rw [nI_app, ← List.append_assoc]; exact ho4.out), Lib.hid ?_⟩
        · obtain ⟨r2, h1, h2⟩ := HKK.out.all i b hb
          rw [HROW.out] at h1
          injection h1 with h1
          subst h1
          exact List.mem_map.2 ⟨_, h2, by simp⟩
        · refine (HMK.out.gr (gr_alloc (grownBy_refl wr none) _)).row hg4.out fun e => ?_
          have := hob _ e
          omega
        · exact gr_moreR (gr_moreR HGK.out (gr_alloc (grownBy_refl wr none) _) (fun k hk => by cases hk)) hg4.out (fun k hk => .inl (hob k hk))

end Go.Proofs.Ytneehdjaaofjaaa
