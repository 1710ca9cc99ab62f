/- ParseArrays. -/
import Derived.Test.YtkbplcfehllbjaaGreatDoorCR4
import Derived.Test.YtkbplcfehllbjaaGreatDoorCG9
import Derived.Deep.DeepCutAuto
import Derived.Deep.CutRange
namespace Go.Proofs.YtkbplcfehllbjaaGreatDoor
open Go.RowKit
attribute [local go_sem ↓] Go.wp_at_zero Go.wp_at_succ
/-- An argument of bytes. -/
def U8s (w : World) (oa : Option Addr) (zs : List Nat) : Prop := zs ≠ [] → ∃ g off, oa = some ⟨g, off, none⟩ ∧ g < w.heap.size ∧ ∀ i (h : i < zs.length), zs[i] < 256 ∧ w.cell? ⟨g, off + i, none⟩ = some (.int .u8 (zs[i] : Nat))
theorem U8s.grow {w w' : World} {oa : Option Addr} {zs : List Nat} (h : U8s w oa zs) (g : w.grownBy w' none) : U8s w' oa zs := fun hz => by
  obtain ⟨b, off, e, hb, hc⟩ := h hz
  refine ⟨b, off, e, Nat.lt_of_lt_of_le hb g.size, fun i hi => ⟨(hc i hi).1, ?_⟩⟩
  rw [World.cell?_of_block (w := w) (g.block b hb (by simp))]
  exact (hc i hi).2
def dsOf (zs : List Nat) : List Nat := (zs.take 10).map fun z => 1 + z % 9
theorem dsOf_len (zs : List Nat) : (dsOf zs).length = min 10 zs.length := by simp [dsOf]
theorem dsOf_mem (zs : List Nat) : ∀ d ∈ dsOf zs, 1 ≤ d ∧ d ≤ 9 := by
  intro d hd
  simp only [dsOf, List.mem_map] at hd
  obtain ⟨z, _, rfl⟩ := hd
  omega
/-- A digit of the table, as a byte, and as a text. -/
def DigAt (d : Nat) (x : UInt8) : Prop := (∀ w : World, (Instr.index 9 (.string ⟨#[48, 49, 50, 51, 52, 53, 54, 55, 56, 57]⟩) (.int .i64 d)).run Tryz.prog w = .ok (.int .u8 x.toNat) w) ∧ ∀ w : World, (convert 5 9 (.int .u8 x.toNat)).run Tryz.prog w = .ok (.string ⟨#[x]⟩) w
theorem dig_at : ∀ d : Nat, 1 ≤ d → d ≤ 9 → DigAt d (digB d)
  | 0, h, _ => absurd h (by omega)
  | 1, _, _ => ⟨fun _ => by kernel_rfl, fun _ => by kernel_rfl⟩
  | 2, _, _ => ⟨fun _ => by kernel_rfl, fun _ => by kernel_rfl⟩
  | 3, _, _ => ⟨fun _ => by kernel_rfl, fun _ => by kernel_rfl⟩
  | 4, _, _ => ⟨fun _ => by kernel_rfl, fun _ => by kernel_rfl⟩
  | 5, _, _ => ⟨fun _ => by kernel_rfl, fun _ => by kernel_rfl⟩
  | 6, _, _ => ⟨fun _ => by kernel_rfl, fun _ => by kernel_rfl⟩
  | 7, _, _ => ⟨fun _ => by kernel_rfl, fun _ => by kernel_rfl⟩
  | 8, _, _ => ⟨fun _ => by kernel_rfl, fun _ => by kernel_rfl⟩
  | 9, _, _ => ⟨fun _ => by kernel_rfl, fun _ => by kernel_rfl⟩
  | n + 10, _, h => absurd h (by omega)
/-- A type in a block of its own; its parts lie below. -/
def TyAt (B : Nat) (w : World) (b : Nat) (t : Ty) : Prop := ∃ (tk tm : Int) (nm : ByteArray) (oa : Option Addr) (on oc : Nat), (tk = t.kind ∧ tm = t.num ∧ nm = ⟨t.name.toArray⟩) ∧ w.heap[b]? = some (.cells #[.int .i64 tk, .int .i64 tm, .string nm, .slice oa on oc] 25 (0, 0)) ∧ RepOf w (fun g => g < B) (.slice oa on oc) t.of
theorem set4_same {w : World} {b : Nat} (S : Nat → Prop) (hS : ∀ g, S g → g ≠ b) (v0 v1 v2 v3 : Value) : SameOn S w ((((w.setCell ⟨b, 0, none⟩ v0).setCell ⟨b, 1, none⟩ v1).setCell ⟨b, 2, none⟩ v2).setCell ⟨b, 3, none⟩ v3) := fun g hs hg => by
  have h : w.heap[g]? = some w.heap[g] := Array.getElem?_eq_getElem hg
  rw [h]
  exact blk_set4 h (hS g hs) v0 v1 v2 v3
theorem ty_put {B : Nat} {w : World} {b : Nat} {t : Ty} {tk tm : Int} {nm : ByteArray} {oa : Option Addr} {on oc : Nat} {u0 u1 u2 u3 : Value} (hb : B ≤ b) (hA : tk = t.kind ∧ tm = t.num ∧ nm = ⟨t.name.toArray⟩) (hB : w.heap[b]? = some (.cells #[u0, u1, u2, u3] 25 (0, 0)))
    (ho : RepOf w (fun g => g < B) (.slice oa on oc) t.of) : TyAt B ((((w.setCell ⟨b, 0, none⟩ (.int .i64 tk)).setCell ⟨b, 1, none⟩ (.int .i64 tm)).setCell ⟨b, 2, none⟩ (.string nm)).setCell ⟨b, 3, none⟩ (.slice oa on oc)) b t :=
  ⟨tk, tm, nm, oa, on, oc, hA, blk_put4 hB _ _ _ _, ho.mono (fun _ h _ => h) (set4_same _ (fun g h => by omega) _ _ _ _)⟩
theorem row_set4 {w : World} {B e size n b : Nat} {v : Value} {xs : List Value} (h : w.ownsRow B e size v n xs) (hb : ∀ g, v.ownBlock = some g → g ≠ b) (v0 v1 v2 v3 : Value) : World.ownsRow ((((w.setCell ⟨b, 0, none⟩ v0).setCell ⟨b, 1, none⟩ v1).setCell ⟨b, 2, none⟩ v2).setCell ⟨b, 3, none⟩ v3) B e size v n xs :=
  ownsRow_same h fun g hg => set4_same (w := w) (fun g => v.ownBlock = some g) (fun g hg => hb g hg) v0 v1 v2 v3 g hg (h.lt g hg).2
theorem add_at (g j : Nat) : (⟨g, 0, none⟩ : Addr).add j = ⟨g, j, none⟩ := by unfold Addr.add; split <;> simp_all
theorem row_cellsB {w : World} {B e size n : Nat} {v : Value} {xs : List Value} (h : w.ownsRow B e size v n xs) : v = .slice none 0 0 ∧ n = 0 ∨ ∃ g cap, v = .slice (some ⟨g, 0, none⟩) n cap ∧ B ≤ g ∧ g < w.heap.size ∧ ∀ j u, xs[j]? = some u → w.cell? ⟨g, j, none⟩ = some u := by
  rcases h.2 with h0 | ⟨g, cap, cur, hv, hb, hh, _, _, _, ht⟩
  · exact .inl h0
  · refine .inr ⟨g, cap, hv, hb, lt_of_heap hh, fun j u hu => ?_⟩
    have := World.news_of_block hh j u (by
      rw [← ht, List.getElem?_take] at hu
      split at hu
      · simpa using hu
      · cases hu)
    rw [add_at] at this
    exact this
/-- A type of one part, opened. -/
theorem TyAt.one {B : Nat} {w : World} {b : Nat} {t t1 : Ty} (h : TyAt B w b t) (ho : t.of = [t1]) : ∃ (g oc : Nat) (tk tm : Int) (nm : ByteArray) (oa : Option Addr) (on oc' : Nat), w.heap[b]? = some (.cells #[.int .i64 t.kind, .int .i64 t.num, .string ⟨t.name.toArray⟩, .slice (some ⟨g, 0, none⟩) 1 oc] 25 (0, 0)) ∧ g < B ∧ g < w.heap.size ∧ (tk = t1.kind ∧ tm = t1.num ∧ nm = ⟨t1.name.toArray⟩) ∧
    (w.cell? ⟨g, 0, none⟩ = some (.int .i64 tk) ∧ w.cell? ⟨g, 1, none⟩ = some (.int .i64 tm) ∧ w.cell? ⟨g, 2, none⟩ = some (.string nm) ∧ w.cell? ⟨g, 3, none⟩ = some (.slice oa on oc')) ∧ RepOf w (fun g => g < B) (.slice oa on oc') t1.of := by
  obtain ⟨tk, tm, nm, oa, on, oc, ⟨rfl, rfl, rfl⟩, hB, hO⟩ := h
  rw [ho] at hO
  obtain rfl : on = 1 := hO.len
  obtain ⟨_, _, rfl, hs, _, _⟩ := hO.some_of (by simp)
  obtain ⟨g, oa, on, oc', he, hg, ⟨p0, p1, p2, p3⟩, hr⟩ := hO.kid 0 (by simp)
  cases he
  simp only [Nat.zero_mul, Nat.zero_add] at p0 p1 p2 p3
  exact ⟨_, oc, t1.kind, t1.num, ⟨t1.name.toArray⟩, oa, on, oc', hB, hs, hg, ⟨rfl, rfl, rfl⟩, ⟨p0, p1, p2, p3⟩, hr⟩
/-- What the loops over the type leave as it was. -/
def KeepX (w wr : World) (bx : Nat) (X : Array Value) (kv : Value) (l : List Nd) : Prop := w.grownBy wr none ∧ wr.heap[bx]? = some (.cells X 28 (0, 0)) ∧ RepK wr (fun g => g < bx) kv l
theorem KeepX.set {w wr : World} {bx : Nat} {X : Array Value} {kv : Value} {l : List Nd} (h : KeepX w wr bx X kv l) (hw : w.heap.size ≤ bx) (v0 v1 v2 v3 : Value) : KeepX w ((((wr.setCell ⟨bx + 1, 0, none⟩ v0).setCell ⟨bx + 1, 1, none⟩ v1).setCell ⟨bx + 1, 2, none⟩ v2).setCell ⟨bx + 1, 3, none⟩ v3) bx X kv l := by
  obtain ⟨hg, hb, hk⟩ := h
  have hl : w.heap.size ≤ bx + 1 := by omega
  refine ⟨?_, blk_set4 hb (by omega) _ _ _ _, hk.mono (fun _ h _ => h) (set4_same _ (fun g h => by omega) _ _ _ _)⟩
  exact World.grownBy.gr_set (World.grownBy.gr_set (World.grownBy.gr_set (World.grownBy.gr_set hg (p := ⟨bx + 1, 0, none⟩) hl _) (p := ⟨bx + 1, 1, none⟩) hl _) (p := ⟨bx + 1, 2, none⟩) hl _) (p := ⟨bx + 1, 3, none⟩) hl _
theorem KeepX.drewN {w wr : World} {bx : Nat} {X : Array Value} {kv : Value} {l : List Nd} (h : KeepX w wr bx X kv l) (n : Nat) : KeepX w (wr.drewN n) bx X kv l := ⟨⟨h.1.os, h.1.tape, h.1.output, h.1.size, h.1.block⟩, h.2.1, h.2.2.mono (w := wr) (w' := wr.drewN n) (fun _ h _ => h) (fun _ _ _ => rfl)⟩
set_option maxRecDepth 100000 in
set_option maxHeartbeats 4000000 in
theorem arrays_walk (oa : Option Addr) (zs : List Nat) (cap st : Nat) (hst : st < 256) (w : World) (hv : Vars w) (hz : U8s w oa zs) (hm : zs.length ≤ maxLen) : Calls Tryz.prog 8 #[.slice oa zs.length cap, .int .u8 st] w fun e w' => e = .returned (.bool true) ∧ w.grownBy w' none := by
  unfold maxLen at hm
  have HV := Lib.hid hv
  have HZ := Lib.hid hz
  clear hv hz
  go_enter Tryz.func8, Tryz.ntmps8
  go_wp2_with fail
  refine (shown_any w HV.out).mono ?_
  rintro e w1 ⟨rfl, hg1⟩
  have HG1 := Lib.hid hg1
  clear hg1
  go_wp2_with fail
  obtain ⟨c, he, hcl⟩ : ∃ c : Nat, st % 20 = c ∧ c < 20 := ⟨st % 20, by omega, by omega⟩
  have hst' : ((st : Int) % 20) = c := by omega
  have HE := Lib.hid hst'
  clear he hst'
  go_loop [6, 7] (fun s i => ∃ (k : Nat) (S : ByteArray), k ≤ c ∧ S.size = 4 + k ∧ i = .int .i64 k ∧ s = .string S ∧ Hid (S.data.toList = [105, 110, 116, 32] ++ List.replicate k 42)) (fun _ i => (c - intOf i).toNat)
  case atStart => exact ⟨0, ⟨#[105, 110, 116, 32]⟩, by omega, rfl, rfl, rfl, rfl⟩
  case round =>
    obtain ⟨k, S, hk, hS, rfl, rfl, HS⟩ := hrel
    by_cases hlt : k < c
    · have hlt' : (k : Int) < (st : Int) % 20 := by rw [HE.out]; omega
      have hw : IntKind.i64.wrap ((k : Int) + 1) = k + 1 := IntWalk.i64_in _ (by omega)
      go_wp2_with fail
      go_round
      case rel => exact ⟨k + 1, _, by omega, by simp only [ByteArray.size_append]; show S.size + 1 = 4 + (k + 1); omega, by go_num, rfl, by show _ = _; simp [HS.out, List.replicate_succ']⟩
      case measure => simp [intOf]; omega
    · have hk' : k = c := by omega
      subst hk'
      clear hlt hk
      have hlt' : ¬ (k : Int) < (st : Int) % 20 := by rw [HE.out]; omega
      go_wp2_with fail
      obtain ⟨i0, hi, hz0, hz1, hz2⟩ := info_parts info3
      have HDL := Lib.hid (dsOf_len zs)
      go_loopg [6, 8, 9] (dsOf zs).length (fun g0 s v i wr => ∃ (j : Nat) (S2 : ByteArray), j ≤ (dsOf zs).length ∧ g0 = (dsOf zs).length - j ∧ i = .int .i64 j ∧ s = .string S2 ∧ S2.size = k + 6 + 3 * j ∧ Hid (S2.data.toList = [105, 110, 116, 32] ++ (List.replicate k 42 ++ ([32, 97] ++ ((dsOf zs).take j).flatMap sizeB))) ∧ Hid (wr.ownsRow w.heap.size 3 1 v j (((dsOf zs).take j).map fun (d : Nat) => Value.int .i64 d)) ∧ Hid (w.grownBy wr none))
      case atStart =>
        refine ⟨0, _, by omega, by omega, rfl, rfl, ?_, ?_, World.ownsRow_nil _ _ _ _, HG1.out⟩
        · simp only [ByteArray.size_append]; show S.size + 2 = _; omega
        · show _ = _; simp [HS.out]
      case round =>
        obtain ⟨j, S2, hj, rfl, rfl, rfl, hS2, HS2, hown, HG⟩ := hrel
        by_cases hlt : j < (dsOf zs).length
        · have hlz : j < zs.length := by have := HDL.out; omega
          have hl10 : j < 10 := by have := HDL.out; omega
          obtain ⟨g, off, rfl, hg, hcell⟩ := (HZ.out.grow HG.out) (by intro e; rw [e] at hlz; simp at hlz)
          obtain ⟨hz256, hcz⟩ := hcell j hlz
          have HD := Lib.hid (show (dsOf zs)[j] = 1 + zs[j] % 9 by simp [dsOf])
          clear hcell
          generalize hzz : zs[j] = z at *
          obtain ⟨x, hx⟩ : ∃ x : UInt8, digB (1 + z % 9) = x := ⟨_, rfl⟩
          obtain ⟨hix, hcv⟩ := dig_at (1 + z % 9) (by omega) (by omega)
          have hci : ((1 + z % 9 : Nat) : Int) = 1 + (z : Int) % 9 := by omega
          rw [hci, hx] at hix
          rw [hx] at hcv
          have HX := Lib.hid hx
          clear hx
          clear hci hzz
          have hlt' : (j : Int) < zs.length := by omega
          have hlt2 : (j : Int) < 10 := by omega
          have hw : IntKind.i64.wrap ((j : Int) + 1) = j + 1 := IntWalk.i64_in _ (by omega)
          have hsz := HG.out.size
          go_wp2_with (at_builtin; go_must (refine wpList_append_own _ rfl (.tmp 46) (.tmp 48) 45 rfl w.heap.size 3 i0 _ 1 8 Tryz.underlying45 hi hz0 hz1 hz2 rfl (by decide) _ j (((dsOf zs).take j).map fun (d : Nat) => Value.int .i64 d) rfl (hown.out.alloc _) ⟨wr.heap.size, 0, none⟩ 1 1 [.int .i64 (1 + (z : Int) % 9)] rfl rfl ?_ ?_ ?_ ?_ ?_ ?_))
          · exact cells_at _ _ _ _
          · intro u hu; simp at hu; subst hu; rfl
          · unfold maxLen; omega
          · omega
          · simp; omega
          intro v' w4 hown' hgrow _
          have HG4 := Lib.hid (gr_own (gr_alloc HG.out (.cells #[.int .i64 (1 + (z : Int) % 9)] 3)) hgrow (fun k hk => (hown.out.lt k hk).1))
          have HO4 := Lib.hid hown'
          have hS3 : S2.size ≤ 100 := by omega
          have HSZ := Lib.hid hS2
          clear hgrow hown' hown HG hcz hi hz0 hz1 hz2 hS2 hsz
          go_wp2_with fail
          go_roundg ((dsOf zs).length - (j + 1))
          case measure => omega
          case rel =>
            have ht : (dsOf zs).take (j + 1) = (dsOf zs).take j ++ [1 + z % 9] := by rw [List.take_succ_eq_append_getElem hlt, HD.out]
            refine ⟨j + 1, _, by omega, by omega, by go_num, rfl, ?_, ?_, ?_, HG4.out⟩
            · simp only [ByteArray.size_append]; have := HSZ.out; show S2.size + 1 + 1 + 1 = _; omega
            · show _ = _
              rw [ht, List.flatMap_append]
              simp [HS2.out, sizeB, HX.out]
            · rw [ht, List.map_append]
              have := HO4.out
              exact Lib.hid (by simpa using this)
        · have hj' : j = (dsOf zs).length := by omega
          subst hj'
          have HO := Lib.hid hown.out
          have HGr := Lib.hid HG.out
          rw [List.take_length] at HS2
          have HOW := Lib.hid (show wr.ownsRow w.heap.size 3 1 u8 (dsOf zs).length ((dsOf zs).map fun (d : Nat) => Value.int .i64 d) by have := hown.out; rwa [List.take_length] at this)
          clear hown HO HG hi hz0 hz1 hz2 hlt hj
          obtain ⟨sp, hsp⟩ : ∃ sp : ByteArray, (S2 ++ ⟨#[59]⟩ : ByteArray) = sp := ⟨_, rfl⟩
          have HP : Hid (∃ r, parseP sp.data.toList = .ok (arrN k (dsOf zs)) r) := by
            have e : sp.data.toList = arrB k (dsOf zs) := by rw [← hsp]; simp [HS2.out, arrB]
            show ∃ r, _ = _
            rw [e]; exact arr_parse k hcl _ (by rw [dsOf_len]; omega) (dsOf_mem zs)
          have HSP := Lib.hid hsp
          have hS3 : S2.size ≤ 100 := by have := HDL.out; omega
          have hN : (dsOf zs).length ≤ 10 := by have := HDL.out; omega
          have hNz : (dsOf zs).length ≤ zs.length := by have := HDL.out; omega
          have hN2 : ¬ (dsOf zs).length < 10 → (dsOf zs).length = 10 := by omega
          have hor : (¬ (((dsOf zs).length : Nat) : Int) < zs.length) ∨ ((((dsOf zs).length : Nat) : Int) < zs.length ∧ ¬ (((dsOf zs).length : Nat) : Int) < 10) := by have := HDL.out; omega
          clear hsp hS2 hS HS HS2 hN2
          generalize hds : dsOf zs = ds at *
          clear hds
          rcases hor with h1 | ⟨h1, h2⟩
          all_goals
            go_wp2_with fail
            rw [HSP.out]
            obtain ⟨r1, hP⟩ := HP.out
            refine (Parse_ok (HV.out.grow HGr.out) hP).mono ?_
            rintro e w2 ⟨hg2, xk, xm, xu, xv, xt, xn, oa', on, oc, ka, kn, kc, rfl, -, -, hkd⟩
            have HG3 := Lib.hid (gr_alloc (grownBy_trans HGr.out hg2) (.cells #[.int .i64 xk, .string xt, .int .i64 xm, .int .i64 xu, .int .i64 xv, .string xn, .slice oa' on oc, .slice ka kn kc] 28))
            have HB := Lib.hid (blk_new w2 (.cells #[.int .i64 xk, .string xt, .int .i64 xm, .int .i64 xu, .int .i64 xv, .string xn, .slice oa' on oc, .slice ka kn kc] 28))
            have HK := Lib.hid ((hkd.out.mono (S' := fun g => g < w2.heap.size) (fun g _ h => h) (fun _ _ _ => rfl)).grow (gr_alloc (grownBy_refl w2 none) (.cells #[.int .i64 xk, .string xt, .int .i64 xm, .int .i64 xu, .int .i64 xv, .string xn, .slice oa' on oc, .slice ka kn kc] 28)))
            have HO2 := Lib.hid (HOW.out.kept hg2 (Classical.em _))
            have HO3 := Lib.hid (HO2.out.alloc (.cells #[.int .i64 xk, .string xt, .int .i64 xm, .int .i64 xu, .int .i64 xv, .string xn, .slice oa' on oc, .slice ka kn kc] 28))
            have hz2 := (grownBy_trans HGr.out hg2).size
            obtain rfl : kn = 1 := hkd.out.len
            obtain ⟨g1, ta, tn, tc, _, _, _, rfl, hg1, ⟨p0, p1, p2, p3, p4, p5, p6, p7⟩, hto, -⟩ := hkd.out.kidN 0 (by simp [arrN, Nd.of, Nd.kids])
            have hkc := HK.out
            simp only [Nat.zero_mul, Nat.zero_add] at p3 p4 p5 p6
            replace p3 : w2.cell? ⟨g1, 3, none⟩ = some (.int .i64 (arrTy k ds).kind) := p3
            replace p4 : w2.cell? ⟨g1, 4, none⟩ = some (.int .i64 (arrTy k ds).num) := p4
            replace p5 : w2.cell? ⟨g1, 5, none⟩ = some (.string ⟨(arrTy k ds).name.toArray⟩) := p5
            have HTO := Lib.hid ((show RepOf w2 (fun g => wr.heap.size ≤ g) (.slice ta tn tc) (arrTy k ds).of from hto).mono (S' := fun g => g < w2.heap.size) (fun g _ h => h) (fun _ _ _ => rfl))
            obtain ⟨q0, hq0⟩ : ∃ q0, (arrTy k ds).kind = q0 := ⟨_, rfl⟩
            obtain ⟨q1, hq1⟩ : ∃ q1, (arrTy k ds).num = q1 := ⟨_, rfl⟩
            obtain ⟨q2, hq2⟩ : ∃ q2 : ByteArray, ⟨(arrTy k ds).name.toArray⟩ = q2 := ⟨_, rfl⟩
            rw [hq0] at p3
            rw [hq1] at p4
            rw [hq2] at p5
            have HTA := Lib.hid (show q0 = (arrTy k ds).kind ∧ q1 = (arrTy k ds).num ∧ q2 = ⟨(arrTy k ds).name.toArray⟩ from ⟨hq0.symm, hq1.symm, hq2.symm⟩)
            clear hto hkd p0 p1 p2 p7 hkc hP hq0 hq1 hq2
            clear hg2
            go_wp2_with fail
            have HXL := Lib.hid (show ∀ g, u8.ownBlock = some g → g < w2.heap.size from fun g hg => (HO2.out.lt g hg).2)
            have HKX : Hid (KeepX w ((w2.alloc (.cells #[.int .i64 xk, .string xt, .int .i64 xm, .int .i64 xu, .int .i64 xv, .string xn, .slice oa' on oc, .slice (some ⟨g1, 0, none⟩) 1 kc] 28)).alloc (.cells #[.int .i64 q0, .int .i64 q1, .string q2, .slice ta tn tc] 25)) w2.heap.size #[.int .i64 xk, .string xt, .int .i64 xm, .int .i64 xu, .int .i64 xv, .string xn, .slice oa' on oc, .slice (some ⟨g1, 0, none⟩) 1 kc] (.slice (some ⟨g1, 0, none⟩) 1 kc) (arrN k ds).kids) :=
              ⟨gr_alloc HG3.out _, blk_alloc HB.out _, HK.out.grow (gr_alloc (grownBy_refl _ none) _)⟩
            have HTY : TyAt w2.heap.size ((w2.alloc (.cells #[.int .i64 xk, .string xt, .int .i64 xm, .int .i64 xu, .int .i64 xv, .string xn, .slice oa' on oc, .slice (some ⟨g1, 0, none⟩) 1 kc] 28)).alloc (.cells #[.int .i64 q0, .int .i64 q1, .string q2, .slice ta tn tc] 25)) (w2.heap.size + 1) (arrTy k ds) :=
              ⟨q0, q1, q2, ta, tn, tc, HTA.out, blk_new2 w2 _ _, HTO.out.grow (gr_alloc (gr_alloc (grownBy_refl _ none) _) _)⟩
            have HOR := Lib.hid (HO3.out.alloc (.cells #[.int .i64 q0, .int .i64 q1, .string q2, .slice ta tn tc] 25))
            generalize (w2.alloc (.cells #[.int .i64 xk, .string xt, .int .i64 xm, .int .i64 xu, .int .i64 xv, .string xn, .slice oa' on oc, .slice (some ⟨g1, 0, none⟩) 1 kc] 28)).alloc (.cells #[.int .i64 q0, .int .i64 q1, .string q2, .slice ta tn tc] 25) = W at *
            generalize w2.heap.size = bx at *
            clear HO3 HK HB HG3 HTO HTA p3 p4 p5 p6 hg1
            go_loopg [15] ds.length (fun g0 i wr => ∃ j : Nat, j ≤ ds.length ∧ g0 = ds.length - j ∧ i = .int .i64 j ∧ Hid (KeepX w wr bx #[.int .i64 xk, .string xt, .int .i64 xm, .int .i64 xu, .int .i64 xv, .string xn, .slice oa' on oc, .slice (some ⟨g1, 0, none⟩) 1 kc] (.slice (some ⟨g1, 0, none⟩) 1 kc) (arrN k ds).kids) ∧ Hid (wr.ownsRow w.heap.size 3 1 u8 ds.length (ds.map fun (d : Nat) => Value.int .i64 d)) ∧ TyAt bx wr (bx + 1) (arraysT ((ds.drop j).map fun (d : Nat) => (d : Int)) (ptrs k (.mk 3 0 [] []))))
            case atStart => exact ⟨0, by omega, by omega, rfl, HKX, HOR, HTY⟩
            case round =>
              obtain ⟨j, hj, rfl, rfl, HK, HO, hty⟩ := hrel
              by_cases hlt : j < ds.length
              · rw [List.drop_eq_getElem_cons hlt, List.map_cons] at hty
                obtain ⟨g2, oc2, tk, tm, nm, ob, om, od, hB, hgB, hgl, hA, ⟨p0, p1, p2, p3⟩, hr⟩ := hty.one (t1 := arraysT ((ds.drop (j + 1)).map fun (d : Nat) => (d : Int)) (ptrs k (.mk 3 0 [] []))) rfl
                rcases row_cellsB HO.out with ⟨rfl, h0⟩ | ⟨gw, cw, rfl, hgw, hgw2, hcw⟩
                · omega
                have hwc := hcw j (.int .i64 (ds[j] : Nat)) (by simp [List.getElem?_eq_getElem hlt])
                have hne : gw < bx := HXL.out gw rfl
                have HB2 := Lib.hid hB
                have HA2 := Lib.hid hA
                have HR := Lib.hid hr
                have hB' : wr.heap[bx + 1]? = some (.cells #[.int .i64 6, .int .i64 (ds[j] : Nat), .string ⟨#[]⟩, .slice (some ⟨g2, 0, none⟩) 1 oc2] 25 (0, 0)) := hB
                obtain ⟨c0, c1, c2, c3, e0, e1, e2, e3⟩ := cells4_of _ _ _ _ _ _ _ hB'
                have hbl := lt_of_heap hB'
                clear hcw hB hB' hA hr hty
                have hlt' : (j : Int) < ds.length := by omega
                have hw : IntKind.i64.wrap ((j : Int) + 1) = j + 1 := IntWalk.i64_in _ (by omega)
                have hn1 : g2 ≠ bx + 1 := by omega
                generalize ((ds[j] : Nat) : Int) = dj at *
                go_wp2_with fail
                go_quiet (fail)
                go_wp2_with fail
                go_roundg (ds.length - (j + 1))
                case measure => omega
                case rel =>
                  refine ⟨j + 1, by omega, by omega, by go_num, (HK.out.drewN nq).set hz2 _ _ _ _, row_set4 (w := wr.drewN nq) HO.out (fun g hg => by have e := own_is hg; omega) _ _ _ _, ?_⟩
                  exact ty_put (w := wr.drewN nq) (by omega) HA2.out HB2.out (HR.out.mono (w := wr) (w' := wr.drewN nq) (fun _ h _ => h) (fun _ _ _ => rfl))
              · have hj' : j = ds.length := by omega
                subst hj'
                rw [List.drop_length] at hty
                replace hty : TyAt bx wr (bx + 1) (ptrs k (.mk 3 0 [] [])) := hty
                have hlt' : ¬ ((ds.length : Nat) : Int) < ds.length := by omega
                obtain ⟨ow, cw, rfl⟩ : ∃ (ow : Option Addr) (cw : Nat), u8 = .slice ow ds.length cw := by
                  rcases row_cellsB HO.out with ⟨e, h0⟩ | ⟨gw, cw, e, _⟩
                  · exact ⟨none, 0, by rw [e, h0]⟩
                  · exact ⟨_, cw, e⟩
                clear hlt hj HTY HKX HOR HO
                go_wp2_with fail
                go_loopg [16] k (fun g0 i ws => ∃ j : Nat, j ≤ k ∧ g0 = k - j ∧ i = .int .i64 j ∧ Hid (KeepX w ws bx #[.int .i64 xk, .string xt, .int .i64 xm, .int .i64 xu, .int .i64 xv, .string xn, .slice oa' on oc, .slice (some ⟨g1, 0, none⟩) 1 kc] (.slice (some ⟨g1, 0, none⟩) 1 kc) (arrN k ds).kids) ∧ TyAt bx ws (bx + 1) (ptrs (k - j) (.mk 3 0 [] [])))
                case atStart => exact ⟨0, by omega, by omega, rfl, HK.out, hty⟩
                case round =>
                  obtain ⟨j, hj, rfl, rfl, HK, hty⟩ := hrel
                  by_cases hlt : j < k
                  · obtain ⟨d, hd⟩ : ∃ d, k - j = d + 1 := ⟨k - j - 1, by omega⟩
                    rw [hd] at hty
                    have hd' : k - (j + 1) = d := by omega
                    obtain ⟨g2, oc2, tk, tm, nm, ob, om, od, hB, hgB, hgl, hA, ⟨p0, p1, p2, p3⟩, hr⟩ := hty.one (t1 := ptrs d (.mk 3 0 [] [])) rfl
                    have HB2 := Lib.hid hB
                    have HA2 := Lib.hid hA
                    have HR := Lib.hid hr
                    have HD := Lib.hid hd'
                    have hB' : wr.heap[bx + 1]? = some (.cells #[.int .i64 5, .int .i64 0, .string ⟨#[]⟩, .slice (some ⟨g2, 0, none⟩) 1 oc2] 25 (0, 0)) := hB
                    obtain ⟨c0, c1, c2, c3, e0, e1, e2, e3⟩ := cells4_of _ _ _ _ _ _ _ hB'
                    have hbl := lt_of_heap hB'
                    clear hB hB' hA hr hty hd hd'
                    have hlt' : (j : Int) < (st : Int) % 20 := by rw [HE.out]; omega
                    have hw : IntKind.i64.wrap ((j : Int) + 1) = j + 1 := IntWalk.i64_in _ (by omega)
                    have hn1 : g2 ≠ bx + 1 := by omega
                    go_wp2_with fail
                    go_roundg (k - (j + 1))
                    case measure => omega
                    case rel =>
                      refine ⟨j + 1, by omega, by omega, by go_num, HK.out.set hz2 _ _ _ _, ?_⟩
                      rw [HD.out]
                      exact ty_put (by omega) HA2.out HB2.out HR.out
                  · have hj' : j = k := by omega
                    subst hj'
                    rw [Nat.sub_self] at hty
                    obtain ⟨tk, tm, nm, ob, om, od, ⟨rfl, -⟩, hB, -⟩ := hty
                    have c0 : wr.cell? ⟨bx + 1, 0, none⟩ = some (.int .i64 3) := (cells4_of _ _ _ _ _ _ _ hB).1
                    obtain ⟨hgr, hX, hkk⟩ := HK.out
                    obtain ⟨⟨x0, x1, x2, x3, x4, x5, x6, x7⟩, _⟩ := cells8_of _ _ _ _ _ _ _ _ _ _ _ hX
                    obtain ⟨_, _, _, _, _, _, _, he, hl1, ⟨-, k1, -⟩, -⟩ := hkk.kidN 0 (by simp [arrN, Nd.of, Nd.kids])
                    cases he
                    rw [Nat.zero_mul, Nat.zero_add] at k1
                    replace k1 : wr.cell? ⟨g1, 1, none⟩ = some (.string ⟨#[97]⟩) := k1
                    have hlt' : ¬ (j : Int) < (st : Int) % 20 := by rw [HE.out]; omega
                    have HGF := Lib.hid hgr
                    clear hB hX hkk hgr hlt hj x0 x1 x2 x3 x4 x5 x6
                    go_wp2_with fail
                    go_ret
                    exact ⟨rfl, HGF.out⟩
theorem u8_natA {n : Int} (h : (Lit.int .u8 n).wf = true) : 0 ≤ n ∧ n < 256 := by
  have h1 : IntKind.u8.min = 0 := rfl
  have h2 : IntKind.u8.max = 255 := rfl
  simp [Lit.wf] at h
  omega
theorem arrays_int (oa : Option Addr) (zs : List Nat) (cap : Nat) (st : Int) (ws : (Lit.int .u8 st).wf = true) (w : World) (hv : Vars w) (hz : U8s w oa zs) (hm : zs.length ≤ maxLen) : Calls Tryz.prog 8 #[.slice oa zs.length cap, .int .u8 st] w fun e w' => e = .returned (.bool true) ∧ w.grownBy w' none := by
  obtain ⟨h1, h2⟩ := u8_natA ws
  obtain ⟨j, rfl⟩ : ∃ j : Nat, st = j := ⟨st.toNat, by omega⟩
  exact arrays_walk oa zs cap j (by omega) w hv hz hm

end Go.Proofs.YtkbplcfehllbjaaGreatDoor
