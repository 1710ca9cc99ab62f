/- The document's memory: access, with, End. -/
import Derived.Test.YtblhnjoophhliaaM24
import Derived.Test.YtblhnjoophhliaaM12
namespace Go.Proofs.Ytblhnjoophhliaa
open Go.RowKit
theorem may_cut {rs : List RB} {p : Val} {n : Int} (hn : 0 ≤ n) {k : Nat} (hf : findI rs.length p.b = some k) {x : RB} (hx : rs[k]? = some x) : mayI x p n = (cutB (rsB rs) p n).isSome := by
  rw [cutB_rs, hf]
  simp only [hx]
  by_cases h : ptrB p = true ∧ x.ended = false ∧ witB x.bytes.length p.n n = true
  · rw [if_pos h]
    have hw := of_decide_eq_true (show decide _ = true from h.2.2)
    exact decide_eq_true ⟨h.1, h.2.1, hn, by omega, by omega, by omega, by omega⟩
  · rw [if_neg h]
    refine decide_eq_false (fun hh => h ⟨hh.1, hh.2.1, decide_eq_true (by omega)⟩)
theorem May_any {S : Nat → Prop} {ad : Option Addr} {rs : List RB} (cap : Nat) (p : Val) (n : Int) (hn : 0 ≤ n) (w : World) (h : RefAt S w ad rs) :
    Calls Try.prog 43 #[.slice ad rs.length cap, valV p, .int .i64 n] w fun e w' => e = .returned (.bool (cutB (rsB rs) p n).isSome) ∧ w.grownBy w' none := by
  rcases hf : findI rs.length p.b with _ | k
  · have e : cutB (rsB rs) p n = none := by rw [cutB_rs, hf]
    rw [e]
    exact May_none cap p n w h hf
  · obtain ⟨x, hx⟩ : ∃ x, rs[k]? = some x := ⟨_, List.getElem?_eq_getElem (findI_some hf).2⟩
    rw [← may_cut hn hf hx]
    exact May_some cap p n w h hf hx
def accI (bs : List Blk) (p : Val) (w : Int) : Int := if widB w = false then 1 else if (cutB bs p w).isSome = true then 0 else 9
set_option maxRecDepth 100000 in
set_option maxHeartbeats 4000000 in
theorem access_any {S : Nat → Prop} {ad : Option Addr} {rs : List RB} (cap : Nat) (p : Val) (n : Int) (w : World) (h : RefAt S w ad rs) :
    Calls Try.prog 38 #[.slice ad rs.length cap, valV p, .int .i64 n] w fun e w' => e = .returned (.int .i64 (accI (rsB rs) p n)) ∧ w.grownBy w' none := by
  have HR := Lib.hid h
  clear h
  by_cases hw : widB n = true
  · obtain ⟨m, rfl, h1, h8⟩ := widB_true hw
    have hm := of_decide_eq_true (show decide _ = true from hw)
    have HAC := Lib.hid (show accI (rsB rs) p m = if (cutB (rsB rs) p m).isSome = true then 0 else 9 from by unfold accI; rw [if_neg (by rw [hw]; simp)])
    have HMAY := Lib.hid (fun W (hW : RefAt S W ad rs) => May_any cap p m (by omega) W hW)
    generalize (cutB (rsB rs) p m).isSome = c at *
    obtain ⟨pn, pb, pf⟩ := p
    unfold valV valC at *
    dsimp only at *
    have HV0 := Lib.hid (VB.new3 w pn pb pf)
    have hm : m = 1 ∨ m = 4 ∨ m = 8 := by omega
    clear hw
    rcases hm with rfl | rfl | rfl
    all_goals
      go_enter Try.func38, Try.ntmps38
      go_wp2_with fail
      refine (HMAY.out _ (HR.out.gr HV0.out.gr)).mono ?_
      rintro e w1 ⟨rfl, g1⟩
      have HV1 := Lib.hid (HV0.out.grown g1)
      clear g1
      cases c
      · go_wp2_with fail
        go_ret
        exact ⟨by rw [HAC.out]; rfl, HV1.out.gr⟩
      · go_wp2_with fail
        go_ret
        exact ⟨by rw [HAC.out]; rfl, HV1.out.gr⟩
  · have hw : widB n = false := by simpa using hw
    have HAC := Lib.hid (show accI (rsB rs) p n = 1 from by unfold accI; rw [if_pos hw])
    have hm := of_decide_eq_false (show decide _ = false from hw)
    obtain ⟨pn, pb, pf⟩ := p
    unfold valV valC at *
    dsimp only at *
    have e1 : (n != 1) = true := by simp; omega
    have e4 : (n != 4) = true := by simp; omega
    have e8 : (n != 8) = true := by simp; omega
    clear hw hm
    go_enter Try.func38, Try.ntmps38
    go_wp2_with fail
    go_ret
    exact ⟨by rw [HAC.out]; rfl, by repeat (first | with_reducible exact grownBy_refl _ _ | with_reducible assumption | with_reducible refine World.grownBy.gr_drew ?_ | with_reducible refine World.grownBy.gr_set ?_ (by simp) _ | with_reducible refine gr_alloc ?_ _)⟩
theorem infoRBlk : (Try.prog.info? 59).map (fun i => (i.zero, i.size, i.bytes)) = some (some (.agg #[.int .i64 0, .slice none 0 0, .bool false]), 3, 40) := by kernel_rfl
theorem rbC_one (x : RB) : ∀ u ∈ (rbC x).toList, u.oneCell' = true := by
  intro u hu
  simp [rbC] at hu
  rcases hu with rfl | rfl | rfl <;> rfl
theorem add_zero0 (g j : Nat) : (⟨g, 0, none⟩ : Addr).add j = ⟨g, j, none⟩ := by unfold Addr.add; split <;> simp_all
theorem RefAt.src {S : Nat → Prop} {W : World} {g : Nat} {rs : List RB} (h : RefAt S W (some ⟨g, 0, none⟩) rs) : ∀ j u, (flatC rbC rs)[j]? = some u → W.cell? ((⟨g, 0, none⟩ : Addr).add j) = some u := by
  intro j u hu
  have hj : j < rs.length * 3 := by have := (List.getElem?_eq_some_iff.1 hu).1; rwa [flat_len rbC_size] at this
  have hd : j = j / 3 * 3 + j % 3 := by omega
  rw [hd, flat_at rbC_size _ _ _ (by omega)] at hu
  rw [add_zero0]
  rcases hx : rs[j / 3]? with _ | x
  · rw [hx] at hu; simp at hu
  · rw [hx] at hu
    rcases h.row with rfl | ⟨g', e, _, hc⟩
    · simp at hx
    · obtain rfl : g = g' := by injection e with e; injection e
      rw [hd, hc _ _ hx _ (by omega)]
      exact hu
/-- A block of the document's: a list of blocks, or bytes. -/
def TyOk (W : World) (k : Nat) : Prop := ∃ cs t, W.heap[k]? = some (.cells cs t (0, 0)) ∧ (t = 59 ∨ t = 67)
theorem TyOk.gr {W W' : World} {k : Nat} (h : TyOk W k) (g : W.grownBy W' none) : TyOk W' k := by
  obtain ⟨cs, t, e, q⟩ := h
  exact ⟨cs, t, (g.block k (lt_of_heap e) (by simp)).trans e, q⟩
theorem own_ty {W : World} {base g n c size : Nat} {ad : Option Addr} {e : TypeId} {xs : List Value} (h : W.ownsRow base e size (.slice ad n c) n xs) (ha : ad = some ⟨g, 0, none⟩) (he : e = 59 ∨ e = 67) : TyOk W g := by
  subst ha
  rcases h.2 with ⟨h0, _⟩ | ⟨g', cap', cur, hv, _, hh, _⟩
  · cases h0
  · simp only [Value.slice.injEq, Option.some.injEq, Addr.mk.injEq] at hv
    obtain ⟨⟨rfl, _, _⟩, _, _⟩ := hv
    exact ⟨cur, e, hh, he⟩
/-- S, and what is new. -/
def New (S : Nat → Prop) (W W' : World) (k : Nat) : Prop := S k ∨ (W.heap.size ≤ k ∧ k < W'.heap.size ∧ TyOk W' k)
/-- A row of the call's own, as the document's list. -/
theorem RefAt.of_own {S : Nat → Prop} {W : World} {base g c : Nat} {rs : List RB} (h : W.ownsRow base 59 3 (.slice (some ⟨g, 0, none⟩) rs.length c) rs.length (flatC rbC rs)) (hg : S g)
    (he : ∀ x ∈ rs, RdAt W x.ad x.bytes ∧ (∀ g, x.ad = some ⟨g, 0, none⟩ → S g) ∧ x.bytes.length ≤ 4096 ∧ Byts x.bytes ∧ (x.ad = none → x.cap = 0) ∧ x.bytes.length ≤ x.cap) (hl : ∀ k, S k → k < W.heap.size) (hs : rs.length ≤ 2000) : RefAt S W (some ⟨g, 0, none⟩) rs :=
  ⟨.inr ⟨g, rfl, hg, fun i x hx q hq => by
    have hi := (List.getElem?_eq_some_iff.1 hx).1
    rw [h.cellAt _ (by omega), flat_at rbC_size _ _ _ hq, hx]; rfl⟩, he, hl, hs⟩
theorem row_put3 {w : World} {B e r n cap k : Nat} {c1 c2 : List Value} {x0 x1 x2 : Value} (h : w.ownsRow B e 3 (.slice (some ⟨r, 0, none⟩) n cap) n (c1 ++ ([x0, x1, x2] ++ c2))) (hk : c1.length = k * 3) (y0 y1 y2 : Value) :
    (((w.setCell ⟨r, k * 3, none⟩ y0).setCell ⟨r, k * 3 + 1, none⟩ y1).setCell ⟨r, k * 3 + 2, none⟩ y2).ownsRow B e 3 (.slice (some ⟨r, 0, none⟩) n cap) n (c1 ++ ([y0, y1, y2] ++ c2)) := by
  refine ⟨by have := h.1; simp at this ⊢; omega, ?_⟩
  rcases h.2 with ⟨h0, _⟩ | ⟨g', cap', cur, hv, hg, hh, hn, hc, hs, ht⟩
  · cases h0
  · simp only [Value.slice.injEq, Option.some.injEq, Addr.mk.injEq] at hv
    obtain ⟨⟨rfl, _, _⟩, _, rfl⟩ := hv
    refine .inr ⟨r, cap, ((cur.setIfInBounds (k * 3) y0).setIfInBounds (k * 3 + 1) y1).setIfInBounds (k * 3 + 2) y2, rfl, hg, ?_, hn, hc, by simpa using hs, ?_⟩
    · simp [World.setCell, Array.getElem?_modify, hh]
    · simp only [Array.toList_setIfInBounds, List.take_set, ht]
      rw [List.set_append_right _ _ (by omega), hk, Nat.sub_self]
      rw [List.set_append_right _ _ (by omega), hk, show k * 3 + 1 - k * 3 = 1 by omega]
      rw [List.set_append_right _ _ (by omega), hk, show k * 3 + 2 - k * 3 = 2 by omega]
      rfl
set_option maxRecDepth 100000 in
set_option maxHeartbeats 4000000 in
theorem with_any {S : Nat → Prop} {ad : Option Addr} {rs : List RB} (cap : Nat) (k : Nat) (x : RB) (w : World) (h : RefAt S w ad rs) (hk : k < rs.length) (hx : RdAt w x.ad x.bytes) (hxs : ∀ g, x.ad = some ⟨g, 0, none⟩ → S g) (hxl : x.bytes.length ≤ 4096) (hxb : Byts x.bytes) (hxc : (x.ad = none → x.cap = 0) ∧ x.bytes.length ≤ x.cap) :
    Calls Try.prog 34 #[.slice ad rs.length cap, .int .i64 ((k : Int) + 1), rbV x] w fun e w' => ∃ ad' c', e = .returned (.slice ad' rs.length c') ∧ RefAt (New S w w') w' ad' (rs.set k x) ∧ w.grownBy w' none := by
  have hsm := h.small
  obtain ⟨y, hy⟩ : ∃ y, rs[k]? = some y := ⟨_, List.getElem?_eq_getElem hk⟩
  obtain ⟨g, rfl, hgw, _⟩ := h.cells hy
  have HR := Lib.hid h
  have HX := Lib.hid hx
  have HXS := Lib.hid hxs
  have HXB := Lib.hid hxb
  have HXC := Lib.hid hxc
  have HY := Lib.hid hy
  clear h hx hxs hxb hxc hy
  have HOX : Hid (rbC x = rbC x) := rfl
  unfold rbV
  have hrb : rbC x = #[.int .i64 x.site, .slice x.ad x.bytes.length x.cap, .bool x.ended] := rfl
  rw [hrb]
  clear hrb HOX
  obtain ⟨j0, hj, hy0, hy1, hy2⟩ := info_parts infoRBlk
  go_enter Try.func34, Try.ntmps34
  go_wp2_with (at_builtin; go_must (refine wpList_append_own _ rfl (.tmp 8) (.tmp 9) 27 rfl (w.heap.size + 1) 59 j0 _ 3 40 Try.underlying27 hj hy0 hy1 hy2 rfl (by decide) _ 0 [] rfl ⟨rfl, .inr ⟨w.heap.size + 1, 0, _, rfl, Nat.le_refl _, by simpa using heap_alloc_new (w.alloc _) (.cells #[] 59), Nat.le_refl _, by unfold maxLen; omega, rfl, rfl⟩⟩ ⟨g, 0, none⟩ rs.length cap (flatC rbC rs) rfl ?_ ?_ ?_ ?_ ?_ ?_ ?_))
  · exact flat_len rbC_size _
  · exact fun j u hu => (HR.out.gr (gr_alloc (gr_alloc (grownBy_refl w none) _) _)).src j u hu
  · exact flat_one rbC_one _
  · unfold maxLen; omega
  · omega
  · simp
  intro v' w4 hown hgrow _
  replace hown : w4.ownsRow (w.heap.size + 1) 59 3 v' rs.length (flatC rbC rs) := by simpa using hown
  have HG4 : Hid (w.grownBy w4 none) := ⟨hgrow.os, hgrow.tape, hgrow.output, Nat.le_trans (by simp only [World.size_alloc]; omega) hgrow.size, fun i hi _ => (hgrow.block i (by simp only [World.size_alloc]; omega) (by simp [Value.ownBlock]; omega)).trans ((gr_alloc (gr_alloc (grownBy_refl w none) _) _).block i hi (by simp))⟩
  have HB4 : Hid (w4.heap[w.heap.size]? = some (.cells #[.int .i64 x.site, .slice x.ad x.bytes.length x.cap, .bool x.ended] 59 (0, 0))) := (hgrow.block _ (by simp only [World.size_alloc]; omega) (by simp [Value.ownBlock])).trans (by rw [heap_alloc_old _ _ (by simp only [World.size_alloc]; omega)]; exact heap_alloc_new w _)
  obtain ⟨r, c', rfl, hr1, hr2⟩ := own_some hown (by omega)
  have HO4 := Lib.hid hown
  clear hown hgrow hj hy0 hy1 hy2
  have b0 : w4.cell? ⟨w.heap.size, 0, none⟩ = some (.int .i64 x.site) := by have e := HB4.out; simp [World.cell?, e]
  have b1 : w4.cell? ⟨w.heap.size, 1, none⟩ = some (.slice x.ad x.bytes.length x.cap) := by have e := HB4.out; simp [World.cell?, e]
  have b2 : w4.cell? ⟨w.heap.size, 2, none⟩ = some (.bool x.ended) := by have e := HB4.out; simp [World.cell?, e]
  have hc : ∀ q, q < 3 → w4.cell? ⟨r, k * 3 + q, none⟩ = (rbC y)[q]? := fun q hq => by
    rw [HO4.out.cellAt _ (by omega), flat_at rbC_size _ _ _ hq, HY.out]; rfl
  have r0 : w4.cell? ⟨r, k * 3, none⟩ = some (.int .i64 y.site) := hc 0 (by omega)
  have r1 : w4.cell? ⟨r, k * 3 + 1, none⟩ = some (.slice y.ad y.bytes.length y.cap) := hc 1 (by omega)
  have r2 : w4.cell? ⟨r, k * 3 + 2, none⟩ = some (.bool y.ended) := hc 2 (by omega)
  have z0 := HO4.out.frozenAt (k * 3)
  have z1 := HO4.out.frozenAt (k * 3 + 1)
  have z2 := HO4.out.frozenAt (k * 3 + 2)
  clear hc
  go_wp2_with fail
  go_ret
  have hset : ∀ v0 v1 v2 : Value, w.grownBy (((w4.setCell ⟨r, k * 3, none⟩ v0).setCell ⟨r, k * 3 + 1, none⟩ v1).setCell ⟨r, k * 3 + 2, none⟩ v2) none := fun v0 v1 v2 => ((HG4.out.gr_set (p := ⟨r, k * 3, none⟩) (by show _ ≤ r; omega) _).gr_set (p := ⟨r, k * 3 + 1, none⟩) (by show _ ≤ r; omega) _).gr_set (p := ⟨r, k * 3 + 2, none⟩) (by show _ ≤ r; omega) _
  refine ⟨some ⟨r, 0, none⟩, c', rfl, ?_, hset _ _ _⟩
  have hG := hset (.int .i64 x.site) (.slice x.ad x.bytes.length x.cap) (.bool x.ended)
  have hlen : (rs.set k x).length = rs.length := List.length_set
  have hrow := HO4.out
  obtain ⟨d1, d2, hd, e1, e2⟩ := flat_set rbC_size hk x
  rw [e1] at hrow
  have hrw := row_put3 (x0 := .int .i64 rs[k].site) (x1 := .slice rs[k].ad rs[k].bytes.length rs[k].cap) (x2 := .bool rs[k].ended) hrow hd (.int .i64 x.site) (.slice x.ad x.bytes.length x.cap) (.bool x.ended)
  have hsz : (((w4.setCell ⟨r, k * 3, none⟩ (.int .i64 x.site)).setCell ⟨r, k * 3 + 1, none⟩ (.slice x.ad x.bytes.length x.cap)).setCell ⟨r, k * 3 + 2, none⟩ (.bool x.ended)).heap.size = w4.heap.size := by simp [World.setCell]
  refine RefAt.of_own (base := w.heap.size + 1) (c := c') (by rw [hlen, e2]; exact hrw) (.inr ⟨by omega, by rw [hsz]; exact hr2, own_ty hrw rfl (.inl rfl)⟩) (fun z hz => ?_) (fun i hi => ?_) (by rw [hlen]; exact hsm)
  · rcases List.mem_or_eq_of_mem_set hz with hz | rfl
    · obtain ⟨q1, q2, q3⟩ := HR.out.each z hz
      exact ⟨q1.gr hG, fun i hi => .inl (q2 i hi), q3⟩
    · exact ⟨HX.out.gr hG, fun i hi => .inl (HXS.out i hi), hxl, HXB.out, HXC.out⟩
  · rcases hi with hi | hi
    · exact Nat.lt_of_lt_of_le (HR.out.lt i hi) hG.size
    · exact hi.2.1

end Go.Proofs.Ytblhnjoophhliaa
