/- ir: siteEach, head. -/
import Derived.Test.YtdknclhbnhiojaaDoorI10
namespace Go.Proofs.YtdknclhbnhiojaaDoor
open Go.RowKit
theorem sit_cells {w : World} {p : Prg} {k : Nat} (h : StrAt sitC 8 w p.sa p.sites) (hk : k < p.sites.length) : ∃ ad, p.sa = some ad ∧
    w.cell? (ad.add (k * 8)) = some (.int .i64 p.sites[k].kind) ∧ w.cell? ⟨(ad.add (k * 8)).block, (ad.add (k * 8)).off + 1, none⟩ = some (.int .i64 p.sites[k].size) ∧ w.cell? ⟨(ad.add (k * 8)).block, (ad.add (k * 8)).off + 2, none⟩ = some (.int .i64 p.sites[k].func) ∧ w.cell? ⟨(ad.add (k * 8)).block, (ad.add (k * 8)).off + 3, none⟩ = some (.string p.sites[k].name) ∧ w.cell? ⟨(ad.add (k * 8)).block, (ad.add (k * 8)).off + 4, none⟩ = some (.int .i64 p.sites[k].tk) ∧ w.cell? ⟨(ad.add (k * 8)).block, (ad.add (k * 8)).off + 5, none⟩ = some (.int .i64 p.sites[k].tn) ∧ w.cell? ⟨(ad.add (k * 8)).block, (ad.add (k * 8)).off + 6, none⟩ = some (.string p.sites[k].tname) ∧ w.cell? ⟨(ad.add (k * 8)).block, (ad.add (k * 8)).off + 7, none⟩ = some (.slice p.sites[k].toa p.sites[k].ton p.sites[k].toc) := by
  obtain ⟨ad, ha, hc, hd⟩ := h.at_ hk
  exact ⟨ad, ha, hc _ rfl, hd 0 _ rfl, hd 1 _ rfl, hd 2 _ rfl, hd 3 _ rfl, hd 4 _ rfl, hd 5 _ rfl, hd 6 _ rfl⟩
theorem fun_cells {w : World} {p : Prg} {k : Nat} (h : StrAt funC 5 w p.fa p.fns) (hk : k < p.fns.length) : ∃ ad, p.fa = some ad ∧
    w.cell? (ad.add (k * 5)) = some (.string p.fns[k].name) ∧ w.cell? ⟨(ad.add (k * 5)).block, (ad.add (k * 5)).off + 1, none⟩ = some (.int .i64 p.fns[k].regs) ∧ w.cell? ⟨(ad.add (k * 5)).block, (ad.add (k * 5)).off + 2, none⟩ = some (.int .i64 p.fns[k].params) ∧ w.cell? ⟨(ad.add (k * 5)).block, (ad.add (k * 5)).off + 3, none⟩ = some (.slice p.fns[k].la p.fns[k].locals.length p.fns[k].lc) ∧ w.cell? ⟨(ad.add (k * 5)).block, (ad.add (k * 5)).off + 4, none⟩ = some (.slice p.fns[k].ca p.fns[k].code.length p.fns[k].cc) := by
  obtain ⟨ad, ha, hc, hd⟩ := h.at_ hk
  exact ⟨ad, ha, hc _ rfl, hd 0 _ rfl, hd 1 _ rfl, hd 2 _ rfl, hd 3 _ rfl⟩
theorem ins_cells {w : World} {f : Fun'} {k : Nat} (h : StrAt insC 8 w f.ca f.code) (hk : k < f.code.length) : ∃ ad, f.ca = some ad ∧
    w.cell? (ad.add (k * 8)) = some (.int .i64 f.code[k].op) ∧ w.cell? ⟨(ad.add (k * 8)).block, (ad.add (k * 8)).off + 1, none⟩ = some (.int .i64 f.code[k].a) ∧ w.cell? ⟨(ad.add (k * 8)).block, (ad.add (k * 8)).off + 2, none⟩ = some (.int .i64 f.code[k].b) ∧ w.cell? ⟨(ad.add (k * 8)).block, (ad.add (k * 8)).off + 3, none⟩ = some (.int .i64 f.code[k].c) ∧ w.cell? ⟨(ad.add (k * 8)).block, (ad.add (k * 8)).off + 4, none⟩ = some (.int .i64 f.code[k].w) ∧ w.cell? ⟨(ad.add (k * 8)).block, (ad.add (k * 8)).off + 5, none⟩ = some (.int .i64 f.code[k].n) ∧ w.cell? ⟨(ad.add (k * 8)).block, (ad.add (k * 8)).off + 6, none⟩ = some (.string f.code[k].sign) ∧ w.cell? ⟨(ad.add (k * 8)).block, (ad.add (k * 8)).off + 7, none⟩ = some (.slice f.code[k].aa f.code[k].an f.code[k].ac) := by
  obtain ⟨ad, ha, hc, hd⟩ := h.at_ hk
  exact ⟨ad, ha, hc _ rfl, hd 0 _ rfl, hd 1 _ rfl, hd 2 _ rfl, hd 3 _ rfl, hd 4 _ rfl, hd 5 _ rfl, hd 6 _ rfl⟩
theorem ret_bool {a b : Bool} (h : a = b) : Ending.returned (.bool a) = .returned (.bool b) := by rw [h]
theorem ret_i64 {a b : Int} (h : a = b) : Ending.returned (.int .i64 a) = .returned (.int .i64 b) := by rw [h]
def SeRel (p : Prg) (w : World) (v : Value) (wr : World) : Prop := ∃ k : Nat, k ≤ p.sites.length ∧ v = .int .i64 k ∧ sitesB p k = true ∧ BoxC (prgC p) 34 w.heap.size wr ∧ w.grownBy wr none
set_option maxRecDepth 100000 in
set_option maxHeartbeats 4000000 in
theorem siteEach_any (p : Prg) (w : World) (hp : PrgOk w p) :
    Calls Tryd.prog 23 #[prgV p] w fun e w' => e = .returned (.bool (eachB p)) ∧ w.grownBy w' none := by
  have hl := hp.1
  have hl2 := hp.2.1
  have HP := Lib.hid hp
  clear hp
  unfold maxLen at hl hl2
  by_cases hlt : p.sites.length < p.fns.length
  · rw [show eachB p = false by unfold eachB; rw [decide_eq_false (by omega)]; rfl]
    unfold prgV prgC
    go_enter Tryd.func23, Tryd.ntmps23
    go_wp2_with fail
    go_ret
    exact ⟨rfl, by repeat (first | with_reducible exact grownBy_refl _ _ | with_reducible assumption | with_reducible refine World.grownBy.gr_drew ?_ | with_reducible refine World.grownBy.gr_set ?_ (by simp) _ | with_reducible refine gr_alloc ?_ _)⟩
  · have hle : p.fns.length ≤ p.sites.length := by omega
    rw [show eachB p = sitesB p p.sites.length by unfold eachB; rw [decide_eq_true hle]; rfl]
    have HB0 := Lib.hid (BoxC.new w (prgC p) 34)
    unfold prgV prgC
    unfold prgC at HB0
    go_enter Tryd.func23, Tryd.ntmps23
    go_wp2_with fail
    go_loopw [15] (fun v wr => SeRel p w v wr) (fun v _ => p.sites.length - (intOf v).toNat)
    case atStart => exact ⟨0, Nat.zero_le _, rfl, rfl, HB0.out, by repeat (first | with_reducible exact grownBy_refl _ _ | with_reducible assumption | with_reducible refine World.grownBy.gr_drew ?_ | with_reducible refine World.grownBy.gr_set ?_ (by simp) _ | with_reducible refine gr_alloc ?_ _)⟩
    case round =>
      obtain ⟨k, hk, rfl, hsb, hbox, hgr⟩ := hrel
      have HS := Lib.hid hsb
      have HG := Lib.hid hgr
      have HB := Lib.hid hbox
      clear hsb
      by_cases hkl : k < p.sites.length
      · obtain ⟨ad, ha, c0, c1, c2, c3, c4, c5, c6, c7⟩ := sit_cells (HP.out.2.2.1.keep (CellsK.of hgr)) hkl
        obtain ⟨b0, b1, b2⟩ := boxP hbox
        have HK := Lib.hid (kindP_in hkl)
        have hbl := lt_of_heap hbox
        generalize p.sites[k] = s at *
        generalize hsa : p.sa = sa at *
        subst ha
        clear hgr hbox
        by_cases h4 : s.kind = 4
        · have e4 : (s.kind == 4) = true := by simpa using h4
          have N4 := Lib.hid (show kindP p (k : Int) = 4 by rw [HK.out]; exact h4)
          clear h4
          by_cases hkf : k < p.fns.length
          · go_wp2_with fail
            go_roundw
            case rel => exact ⟨k + 1, by omega, by go_num, by rw [sitesB_succ, HS.out, Bool.true_and]; simp [N4.out, hkf], HB.out.gr (gr_alloc (grownBy_refl _ _) _), gr_alloc HG.out _⟩
            case measure => simp [intOf]; omega
          · go_wp2_with fail
            go_ret
            exact ⟨ret_bool (a := false) (sitesB_false hkl (by simp [N4.out, hkf])).symm, gr_alloc HG.out _⟩
        · have e4 : (s.kind == 4) = false := by simpa using h4
          have N4 := Lib.hid (show ¬ kindP p (k : Int) = 4 by rw [HK.out]; exact h4)
          clear h4
          by_cases hkf : k < p.fns.length
          · go_wp2_with fail
            go_ret
            exact ⟨ret_bool (a := false) (sitesB_false hkl (by simp [N4.out, hkf])).symm, gr_alloc HG.out _⟩
          · go_wp2_with fail
            go_roundw
            case rel => exact ⟨k + 1, by omega, by go_num, by rw [sitesB_succ, HS.out, Bool.true_and]; simp [N4.out, hkf], HB.out.gr (gr_alloc (grownBy_refl _ _) _), gr_alloc HG.out _⟩
            case measure => simp [intOf]; omega
      · have hkk : k = p.sites.length := by omega
        subst hkk
        clear hgr hbox
        go_wp2_with fail
        go_ret
        exact ⟨ret_bool (a := true) HS.out.symm, HG.out⟩

end Go.Proofs.YtdknclhbnhiojaaDoor
