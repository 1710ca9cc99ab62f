/- ParsePlaces. -/
import Derived.Test.YtkbplcfehllbjaaGreatDoorMkTop
namespace Go.Proofs.YtkbplcfehllbjaaGreatDoor
open Go.RowKit
attribute [local go_sem ↓] Go.wp_at_zero Go.wp_at_succ
theorem RepK.kid_kind {w : World} {S : Nat → Prop} {a : Option Addr} {n c : Nat} {l : List Nd} (h : RepK w S (.slice a n c) l) (k : Nat) (hk : k < l.length) : ∃ g : Nat, a = some ⟨g, 0, none⟩ ∧ g < w.heap.size ∧ w.cell? ⟨g, k * 8, none⟩ = some (.int .i64 (l[k]).kind) := by
  obtain ⟨g, oa, on, oc, ka, kn, kc, rfl, hg, ⟨p0, _⟩, _⟩ := h.kidN k hk
  exact ⟨g, rfl, hg, p0⟩
set_option maxRecDepth 100000 in
set_option maxHeartbeats 4000000 in
theorem places_walk (s : ByteArray) (w : World) (hv : Vars w) : Calls Tryz.prog 4 #[.string s] w fun e w' => e = .returned (.bool true) ∧ w.grownBy w' none := by
  have HV := Lib.hid hv

  clear hv
  go_enter Tryz.func4, Tryz.ntmps4
  go_wp2_with fail
  refine (shown_any w HV.out).mono ?_
  rintro e w1 ⟨rfl, hg1⟩
  have HG1 := Lib.hid hg1
  clear hg1
  go_wp2_with fail
  cases hR : parseP s.data.toList with
  | err p er =>
    have hnz := parseP_nz hR
    have hp := parseP_pos hR
    have hp2 : (p : Int) ≤ s.size := by simpa using hp
    refine (Parse_bad (HV.out.grow HG1.out) hR).mono ?_
    rintro e w2 ⟨hg2, rfl⟩
    have HG2 := Lib.hid (grownBy_trans HG1.out hg2)
    clear hg2 hR
    unfold ndV zeroN
    simp only [Nd.kind, Nd.text, Nd.num, Nd.typ, Ty.kind, Ty.num, Ty.name]
    have HS := fun wx => Lib.hid (same_any zeroN (fun _ => False) (fun _ => False) none 0 0 none 0 0 none 0 0 none 0 0 wx (RepOf.nil _ _) (RepOf.nil _ _) (RepK.nil _ _) (RepK.nil _ _))
    unfold ndV zeroN at HS
    simp only [Nd.kind, Nd.text, Nd.num, Nd.typ, Ty.kind, Ty.num, Ty.name] at HS
    go_wp2_with fail
    refine ((HS _).out).mono ?_
    rintro e w3 ⟨rfl, hg3⟩
    have HG3 := Lib.hid (grownBy_trans (gr_alloc HG2.out _) hg3)
    clear hg3
    go_wp2_with fail
    go_ret
    exact ⟨rfl, HG3.out⟩
  | ok n rest =>
    obtain ⟨hk23, hd, hkids, -, -, -, -⟩ := parseP_ok hR
    refine (Parse_ok (HV.out.grow HG1.out) hR).mono ?_
    rintro e w2 ⟨hg2, k, m, tk, tm, tx, nm, oa, on, oc, ka, kn, kc, rfl, hat, hof, hkd⟩
    obtain ⟨rfl, rfl, rfl, rfl, rfl, rfl⟩ := hat.out
    have hlen := hkd.out.len
    have hm64 : n.kids.length ≤ maxLen := by
      cases hk0 : n.kids with
      | nil => simp
      | cons t l =>
        obtain ⟨_, _, _, _, _, h⟩ := hkd.out.some_of (by rw [hk0]; simp)
        rw [← hk0]; exact h
    have HML := Lib.hid hm64
    have HLN := Lib.hid hlen
    have HKS := Lib.hid hkids
    have HD := Lib.hid hd
    have H23 := Lib.hid hk23
    clear hk23
    have HG1' := Lib.hid (grownBy_trans HG1.out hg2)
    have HDP := fun S (h : RepK (w2.alloc (.cells #[.int .i64 n.kind, .string ⟨n.text.toArray⟩, .int .i64 n.num, .int .i64 n.typ.kind, .int .i64 n.typ.num, .string ⟨n.typ.name.toArray⟩, .slice oa on oc, .slice ka kn kc] 28)) S (.slice ka kn kc) n.kids) wx (g : (w2.alloc (.cells #[.int .i64 n.kind, .string ⟨n.text.toArray⟩, .int .i64 n.num, .int .i64 n.typ.kind, .int .i64 n.typ.num, .string ⟨n.typ.name.toArray⟩, .slice oa on oc, .slice ka kn kc] 28)).grownBy wx none) => Lib.hid (Depth_any n oa ka on oc kn kc S wx (h.grow g))
    clear hlen hm64 hkids hd hat hg2 hR
    unfold ndV at HDP
    go_wp2_with fail
    have hb := blk_new w2 (.cells #[.int .i64 n.kind, .string ⟨n.text.toArray⟩, .int .i64 n.num, .int .i64 n.typ.kind, .int .i64 n.typ.num, .string ⟨n.typ.name.toArray⟩, .slice oa on oc, .slice ka kn kc] 28)
    have HG2 := Lib.hid (gr_alloc HG1'.out (.cells #[.int .i64 n.kind, .string ⟨n.text.toArray⟩, .int .i64 n.num, .int .i64 n.typ.kind, .int .i64 n.typ.num, .string ⟨n.typ.name.toArray⟩, .slice oa on oc, .slice ka kn kc] 28))
    have HK := Lib.hid (hkd.out.grow (gr_alloc (grownBy_refl w2 none) (.cells #[.int .i64 n.kind, .string ⟨n.text.toArray⟩, .int .i64 n.num, .int .i64 n.typ.kind, .int .i64 n.typ.num, .string ⟨n.typ.name.toArray⟩, .slice oa on oc, .slice ka kn kc] 28)))
    have HDQ := HDP _ HK.out
    have HB := Lib.hid hb
    clear hof hkd hb HDP
    generalize w2.alloc (.cells #[.int .i64 n.kind, .string ⟨n.text.toArray⟩, .int .i64 n.num, .int .i64 n.typ.kind, .int .i64 n.typ.num, .string ⟨n.typ.name.toArray⟩, .slice oa on oc, .slice ka kn kc] 28) = W at *
    generalize w2.heap.size = b at *
    go_loopg [7, 8] kn (fun g0 x y wr => ∃ i : Nat, i ≤ kn ∧ g0 = kn - i ∧ x = .int .i64 i ∧ wr = W)
    case atStart => exact ⟨0, by omega, by omega, rfl, rfl⟩
    case round =>
      obtain ⟨i, hin, rfl, rfl, rfl⟩ := hrel
      have b4 := cell_of_row _ _ 7 _ _ _ HB.out
      have b0 := cell_of_row _ _ 0 _ _ _ HB.out
      simp at b4 b0
      have hbl := lt_of_heap HB.out
      by_cases hi : i < kn
      · have hi' : (i : Int) < kn := by omega
        have hil : i < n.kids.length := by have := HLN.out; omega
        have hml : kn ≤ maxLen := by have := HLN.out; have := HML.out; omega
        unfold maxLen at hml
        have w3 : IntKind.i64.wrap ((i : Int) + 1) = i + 1 := IntWalk.i64_in _ (by omega)
        obtain ⟨g1, rfl, hg1, p0⟩ := HK.out.kid_kind i hil
        have hkk := HKS.out _ (List.getElem_mem hil)
        unfold itemK at hkk
        obtain ⟨kk, hkk', p1⟩ : ∃ kk : Int, (kk = 20 ∨ kk = 21 ∨ kk = 22) ∧ wr.cell? ⟨g1, i * 8, none⟩ = some (.int .i64 kk) := ⟨_, hkk, p0⟩
        clear hkk p0 hil
        rcases hkk' with rfl | rfl | rfl <;> go_wp2_with fail
        all_goals
          go_roundg (kn - (i + 1))
          case measure => omega
          case rel => exact ⟨i + 1, by omega, rfl, by simp, rfl⟩
      · have hi' : ¬ (i : Int) < kn := by omega
        obtain ⟨⟨q0, q1, q2, q3, q4, q5, q6, q7⟩, _⟩ := cells8_of _ b _ _ _ _ _ _ _ _ _ HB.out
        have hdd := HD.out
        have h23 := H23.out
        rw [h23] at q0
        have hmin : ((min (ndH n) 251 : Nat) : Int) = ndH n := by omega
        have hd2 : (ndH n : Int) ≤ 250 := by omega
        go_wp2_with fail
        have hq := (HDQ wr (grownBy_refl wr none)).out
        rw [h23] at hq
        refine hq.mono ?_
        rintro e w4 ⟨rfl, hg4⟩
        have HG4 := Lib.hid (grownBy_trans HG2.out hg4)
        clear hg4 hq
        rw [hmin]
        go_wp2_with fail
        go_ret
        exact ⟨rfl, HG4.out⟩

end Go.Proofs.YtkbplcfehllbjaaGreatDoor
