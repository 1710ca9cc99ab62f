/- scc: Reach. -/
import Derived.Test.YtneehdjaaofjaaaE6
import Derived.Test.YtneehdjaaofjaaaE3
import Derived.Deep.DeepCutAuto
namespace Go.Proofs.Ytneehdjaaofjaaa
open Go.RowKit
theorem own_made (w : World) : OwN w.heap.size (w.alloc (.cells #[] 3)) (.slice (some ⟨w.heap.size, 0, none⟩) 0 0) [] := World.ownsRow_made w #[] 0 (Nat.le_refl _) (Nat.zero_le _) rfl
/-- The nodes among some numbers. -/
def nodesOf (N : Nat) (F : List Int) : List Nat := (F.filter fun x => decide (0 ≤ x ∧ x < (N : Int))).map Int.toNat
theorem nodesOf_mem {N : Nat} {F : List Int} {a : Nat} : a ∈ nodesOf N F ↔ (a : Int) ∈ F ∧ a < N := by
  unfold nodesOf
  simp only [List.mem_map, List.mem_filter, decide_eq_true_eq]
  constructor
  · rintro ⟨x, ⟨h1, h2, h3⟩, rfl⟩
    have : ((x.toNat : Nat) : Int) = x := by omega
    exact ⟨by rw [this]; exact h1, by omega⟩
  · rintro ⟨h1, h2⟩
    exact ⟨a, ⟨h1, by omega, by omega⟩, by simp⟩
theorem nodesOf_next {N : Nat} {F : List Int} {q : Nat} {x : Int} (hx : F[q]? = some x) : nodesOf N (F.take (q + 1)) = nodesOf N (F.take q) ++ if 0 ≤ x ∧ x < (N : Int) then [x.toNat] else [] := by
  rw [List.take_add_one, hx]
  unfold nodesOf
  rw [List.filter_append, List.map_append]
  by_cases h : 0 ≤ x ∧ x < (N : Int) <;> simp [h]
set_option maxRecDepth 100000 in
set_option maxHeartbeats 4000000 in
theorem Reach15 (n : Int) (A B : Option Addr) (c0 k d : Nat) (E : List Edg) (F : List Int) (w : World) (hE : EdsAt w A E) (hB : IntsAt w B k d F) (hEl : E.length ≤ 1000) (hFl : F.length ≤ 9223372036854775807) :
    Calls Try.prog 16 #[.int .i64 n, .slice A E.length c0, .slice B k d] w fun e w' => ∃ R, IsRe (szE n) (prs (szE n) E) F R ∧ RetInts w none R e w' := by
  have HC := Lib.hid (newGraph_any n A c0 E w hE hEl)
  have HB := Lib.hid hB
  obtain rfl : k = F.length := hB.len
  have hN := szE_le n
  obtain ⟨N, hNN⟩ : ∃ N, N = szE n := ⟨_, rfl⟩
  rw [← hNN] at HC hN ⊢
  clear hE hB hEl hNN
  go_enter Try.func16, Try.ntmps16
  go_wp2_with fail
  refine HC.out.mono ?_
  rintro e w1 ⟨o, G, rfl, _, hG, hK, hS, hg1⟩
  have HV := Lib.hid (visitor_any (some ⟨o, 0, none⟩) N N G w1 _ hG hN)
  have HK := Lib.hid hK
  have HS := Lib.hid hS
  have HG1 := Lib.hid hg1
  clear hG hK hS hg1 HC
  go_wp2_with fail
  refine HV.out.mono ?_
  rintro e wb ⟨r, pv, pg, pf, rfl, hV, hM, hg2, hr⟩
  have HVA := Lib.hid (show VstAt wb _ N N G r pv pg pf from hV.mono fun x hx _ => by
    rcases hx with ⟨_, h⟩ | ⟨_, h⟩
    · intro e; injection e with e; omega
    · intro e; injection e with e; omega)
  have HM := Lib.hid hM
  have HG2 := Lib.hid (grownBy_trans HG1.out hg2)
  have hs1 := HG1.out.size
  have HRW := Lib.hid (Nat.le_trans hs1 hr)
  have HRB := Lib.hid (show r < wb.heap.size from hM.lt.2)
  have HOW := Lib.hid (own_made wb)
  clear hV hM hg2 hr hs1 HV HG1
  go_wp2_with fail
  go_loopw [20, 9] (fun i l wr => ∃ (q : Nat) (new : List Nat) (K : List Bool), q ≤ F.length ∧ i = .int .i64 q ∧ Hid (Seqs (prs N E) (List.replicate N false) (nodesOf N (F.take q)) new K) ∧ Hid (new.length + fcnt K = N) ∧ Hid (MkAt w1.heap.size wr r N K) ∧ Hid (OwN wb.heap.size wr l (nI new)) ∧ Hid (wb.grownBy wr (some r))) (fun i _ _ => F.length - (intOf i).toNat)
  case atStart => exact ⟨0, [], _, Nat.zero_le _, rfl, Seqs.first _ _, Lib.hid (by rw [fcnt_none]; simp), HM.out.gr (gr_alloc (grownBy_refl _ _) _), HOW.out, gr_alloc (grownBy_refl _ _) _⟩
  case round =>
    obtain ⟨q, new, K, hq, rfl, HSQ, HCN, HMK, HOK, HGK⟩ := hrel
    have HGW := Lib.hid (show w.grownBy wr none from gr_own HG2.out HGK.out (fun k hk => by injection hk with hk; have := HRW.out; omega))
    by_cases hlt : q < F.length
    · have hx := List.getElem?_eq_getElem hlt
      obtain ⟨bd, rfl, hx9⟩ := HB.out.at_ hlt
      clear hx9
      generalize F[q] = x at hx
      have HX := Lib.hid hx
      have hc1 := (HB.out.keep HGW.out).cellOf hx
      have HNX := Lib.hid (nodesOf_next (N := N) hx)
      clear hx
      by_cases hin : 0 ≤ x ∧ x < (N : Int)
      · have HIN := Lib.hid (decide_eq_true hin)
        rw [if_pos hin] at HNX
        obtain ⟨j, rfl⟩ : ∃ j : Nat, x = j := ⟨x.toNat, by omega⟩
        rw [Int.toNat_natCast] at HNX
        have HJ := Lib.hid (show j < N by omega)
        clear hin
        have HCL := Lib.hid (visit_any (prs N E) N N w1.heap.size r pv pg pf _ G wb HVA.out HK.out (HS.out.mono (by omega)) HRB.out (fcnt K) K (nI new) u9 wr j (Nat.le_refl _) (HSQ.out.seg.len.trans (by simp)) HJ.out HMK.out HOK.out (by rw [nI_len]; have := HCN.out; omega) HGK.out)
        go_wp2_with fail
        refine (has_any _ N N j _).mono ?_
        rintro e w2 ⟨rfl, rfl⟩
        rw [HIN.out]
        go_wp2_with fail
        refine HCL.out.mono ?_
        rintro e w5 ⟨new2, K2, v2, rfl, HV2, HC2, HM2, HO2, HG2'⟩
        go_wp2_with fail
        go_roundw
        case rel => exact ⟨q + 1, new ++ new2, K2, by omega, by go_num, Lib.hid (by rw [HNX.out]; exact HSQ.out.next HV2.out), Lib.hid (by rw [List.length_append]; have := HC2.out; have := HCN.out; omega), HM2, Lib.hid (by rw [nI_app]; exact HO2.out), HG2'⟩
        case measure => simp [intOf]; omega
      · have HIN := Lib.hid (decide_eq_false hin)
        rw [if_neg hin, List.append_nil] at HNX
        clear hin
        go_wp2_with fail
        refine (has_any _ N N x _).mono ?_
        rintro e w2 ⟨rfl, rfl⟩
        rw [HIN.out]
        go_wp2_with fail
        go_roundw
        case rel => exact ⟨q + 1, new, K, by omega, by go_num, Lib.hid (by rw [HNX.out]; exact HSQ.out), HCN, HMK, HOK, HGK⟩
        case measure => simp [intOf]; omega
    · obtain rfl : q = F.length := by omega
      rw [List.take_length] at HSQ
      have HSO := Lib.hid (sort_own wb.heap.size u9 (nI new) wr HOK.out (by rw [nI_len]; have := HCN.out; omega))
      have HBS := Lib.hid (show ∀ k, u9.ownBlock = some k → wb.heap.size ≤ k from fun k hk => (HOK.out.lt k hk).1)
      have HBW := Lib.hid (show w.heap.size ≤ wb.heap.size from HG2.out.size)
      go_wp2_with fail
      refine HSO.out.mono ?_
      rintro e w6 ⟨rfl, ho6, hg6⟩
      have HO6 := Lib.hid ho6
      have HG6 := Lib.hid (gr_own HGW.out hg6 (fun k hk => Nat.le_trans HBW.out (HBS.out k hk)))
      clear ho6 hg6
      go_wp2_with fail
      go_ret
      obtain ⟨h1, h2⟩ := sort_rise HSQ.out.seg.nd
      refine ⟨_, ⟨h1, fun x => ?_⟩, RetInts.own HO6.out HBW.out HG6.out⟩
      rw [h2]
      unfold nI
      rw [List.mem_map]
      constructor
      · rintro ⟨b, hb, rfl⟩
        obtain ⟨a, ha, hl⟩ := (HSQ.out.all b).1 hb
        obtain ⟨h3, h4⟩ := nodesOf_mem.1 ha
        exact ⟨a, b, h3, h4, hl, rfl⟩
      · rintro ⟨a, b, h3, h4, hl, rfl⟩
        exact ⟨b, (HSQ.out.all b).2 ⟨a, nodesOf_mem.2 ⟨h3, h4⟩, hl⟩, rfl⟩

end Go.Proofs.Ytneehdjaaofjaaa
