/- Merged: I23d, I24rd, I24d, I28d, I25d. -/
import Derived.Test.YtajmkdbokdjmeaaGreatMk2
import Derived.Deep.RegionHeld3
/- The document's Insn, whatever the instruction. -/
namespace Go.Proofs.YtajmkdbokdjmeaaGreat
open Go.RowKit
set_option maxRecDepth 100000 in
set_option maxHeartbeats 4000000 in
theorem Insn_out (p : Prg) (f : Fun') (pc : Nat) (hk : pc < f.code.length) (w : World) (hf : FunOk w f) (h : f.code[pc].op < 1 ∨ 20 < f.code[pc].op) :
    Calls Tryz.prog 27 #[prgV p, funV f, .int .i64 pc] w fun e w' => e = .returned (.int .i64 1) ∧ w.grownBy w' none := by
  have hlc := hf.2.2.1
  unfold maxLen at hlc
  obtain ⟨ad, ha, c0, c1, c2, c3, c4, c5, c6, c7⟩ := ins_cells (hf.2.2.2.1.keep (CellsK.of (show w.grownBy ((w.alloc (.cells (prgC p) 25)).alloc (.cells (funC f) 39)) none by repeat (first | with_reducible exact grownBy_refl _ _ | with_reducible assumption | with_reducible refine World.grownBy.gr_drew ?_ | with_reducible refine World.grownBy.gr_set ?_ (by simp) _ | with_reducible refine gr_alloc ?_ _)))) hk
  generalize f.code[pc] = i at *
  have HFV := Lib.hid (show funV f = .agg #[.string f.name, .int .i64 f.regs, .int .i64 f.params, .slice f.la f.locals.length f.lc, .slice (some ad) f.code.length f.cc] by unfold funV funC; rw [ha])
  have HFC := Lib.hid (show funC f = #[.string f.name, .int .i64 f.regs, .int .i64 f.params, .slice f.la f.locals.length f.lc, .slice (some ad) f.code.length f.cc] by unfold funC; rw [ha])
  have hd : decide (i.op < 1) = true ∨ (decide (i.op < 1) = false ∧ decide (20 < i.op) = true) := by
    by_cases h1 : i.op < 1
    · exact .inl (decide_eq_true h1)
    · exact .inr ⟨decide_eq_false h1, decide_eq_true (by omega)⟩
  rw [HFV.out]
  rw [HFC.out] at c0 c1 c2 c3 c4 c5 c6 c7
  unfold prgC at c0 c1 c2 c3 c4 c5 c6 c7
  unfold prgV prgC
  clear hf ha h
  rcases hd with e1 | ⟨e1, e2⟩
  all_goals
    go_enter Tryz.func27, Tryz.ntmps27
    go_wp2_with fail
    go_ret
    exact ⟨rfl, by repeat (first | with_reducible exact grownBy_refl _ _ | with_reducible assumption | with_reducible refine World.grownBy.gr_drew ?_ | with_reducible refine World.grownBy.gr_set ?_ (by simp) _ | with_reducible refine gr_alloc ?_ _)⟩
theorem Insn_any (p : Prg) (f : Fun') (pc : Nat) (hk : pc < f.code.length) (w : World) (hp : PrgOk w p) (hf : FunOk w f) :
    Calls Tryz.prog 27 #[prgV p, funV f, .int .i64 pc] w fun e w' => e = .returned (.int .i64 (insE p f pc f.code[pc])) ∧ w.grownBy w' none := by
  by_cases h : f.code[pc].op < 1 ∨ 20 < f.code[pc].op
  · rw [insE_out h]
    exact Insn_out p f pc hk w hf h
  · exact Insn_in p f pc hk w hp hf (by omega) (by omega)

end Go.Proofs.YtajmkdbokdjmeaaGreat
/- The document's Check: the locals' test, a region that draws its order. -/
namespace Go.Proofs.YtajmkdbokdjmeaaGreat
open Go.RowKit
def opsAt : List Bool → Code → Array Oper
  | [], .region _ ops _ => ops
  | false :: l, .seq a _ => opsAt l a
  | true :: l, .seq _ b => opsAt l b
  | false :: l, .cond _ a _ => opsAt l a
  | true :: l, .cond _ _ b => opsAt l b
  | _ :: l, .block _ b => opsAt l b
  | _ :: l, .loop b => opsAt l b
  | _ :: l, .scope b => opsAt l b
  | _, _ => #[]
noncomputable def ops19 : Array Oper := opsAt [true, true, true, true, false, true, false, false, true, false, false, true, true, false, true, false, false, true, false, false, false] (Tryz.f18.body.getD .skip)
set_option maxRecDepth 100000 in
set_option maxHeartbeats 16000000 in
theorem reg19_one {ops : Array Oper} (ho : ops = ops19) {Q : Exit → Act → World → Prop} {x0 x2 x3 x4 x5 x9 x10 x11 x12 x13 x14 x15 x16 x17 x18 x19 x20 x21 x22 x23 x24 x25 x26 x27 x28 x29 x30 x31 x32 x33 x34 x35 x36 x37 x38 x39 x40 x41 x42 x43 x44 x45 x46 x47 x48 x49 x50 x51 x52 x53 x54 x55 x56 x57 x58 x59 x60 x61 x62 x63 x64 x65 x66 x67 x68 x69 x70 x71 x72 x73 x74 x75 x76 x77 x78 x79 x80 x81 x82 x83 x84 x85 x86 x87 x88 x89 x90 x91 x92 x93 x94 x95 x96 x97 x98 x99 x100 x101 x102 x103 x104 x105 x106 x107 x108 x109 x110 x111 x112 x113 x114 x115 x116 x117 x118 x119 x120 x121 x122 x123 x124 x125 x126 x127 x128 x129 x130 x131 x132 x133 x134 x135 x136 x137 x138 x139 x140 x141 x142 x143 x144 x145 x146 : Value} {b bf k j : Nat} {fa : Option Addr} {sl sc fl fc ll lc : Nat} {mn : Int} (sa : Option Addr) (ld : Addr) (x kd : Int) {R : World → Prop} {w : World} (hw : R w.drew)
    (hj0 : (0 : Int) ≤ (j : Int)) (hj : (j : Int) < (ll : Int)) (hkd : (kd != 2) = true)
    (HS : ∀ W, R W → W.cell? ⟨b, 0, none⟩ = some (.slice sa sl sc) ∧ W.cell? ⟨b, 1, none⟩ = some (.slice fa fl fc) ∧ W.cell? ⟨b, 2, none⟩ = some (.int .i64 mn) ∧ W.cell? ⟨bf, 3, none⟩ = some (.slice (some ld) ll lc) ∧ W.cell? (ld.add j) = some (.int .i64 x))
    (HK : ∀ W, R W → Calls Tryz.prog 26 #[.agg #[.slice sa sl sc, .slice fa fl fc, .int .i64 mn], .int .i64 x] W fun e w' => e = .returned (.int .i64 kd) ∧ R w')
    (hQ : ∀ W u108 u109 u110 u111 u112 u113 u114 u115 u116 u117 u118 u119 u120 u121 u122 u123 u124 u125 u126 u127 u128, R W → Q .normal ⟨#[x0, .pointer (some ⟨b, 0, none⟩), x2, x3, x4, x5, .int .i64 (k : Int), .pointer (some ⟨bf, 0, none⟩), .int .i64 (j : Int), x9, x10, x11, x12, x13, x14, x15, x16, x17, x18, x19, x20, x21, x22, x23, x24, x25, x26, x27, x28, x29, x30, x31, x32, x33, x34, x35, x36, x37, x38, x39, x40, x41, x42, x43, x44, x45, x46, x47, x48, x49, x50, x51, x52, x53, x54, x55, x56, x57, x58, x59, x60, x61, x62, x63, x64, x65, x66, x67, x68, x69, x70, x71, x72, x73, x74, x75, x76, x77, x78, x79, x80, x81, x82, x83, x84, x85, x86, x87, x88, x89, x90, x91, x92, x93, x94, x95, x96, x97, x98, x99, x100, x101, x102, x103, x104, x105, x106, x107, u108, u109, u110, u111, u112, u113, u114, u115, u116, u117, u118, u119, u120, u121, u122, u123, u124, u125, u126, u127, u128, .bool true, x130, x131, x132, x133, x134, x135, x136, x137, x138, x139, x140, x141, x142, x143, x144, x145, x146], []⟩ W) :
    (Code.region 19 ops true).wp Tryz.prog (NoPanic Q) ⟨#[x0, .pointer (some ⟨b, 0, none⟩), x2, x3, x4, x5, .int .i64 (k : Int), .pointer (some ⟨bf, 0, none⟩), .int .i64 (j : Int), x9, x10, x11, x12, x13, x14, x15, x16, x17, x18, x19, x20, x21, x22, x23, x24, x25, x26, x27, x28, x29, x30, x31, x32, x33, x34, x35, x36, x37, x38, x39, x40, x41, x42, x43, x44, x45, x46, x47, x48, x49, x50, x51, x52, x53, x54, x55, x56, x57, x58, x59, x60, x61, x62, x63, x64, x65, x66, x67, x68, x69, x70, x71, x72, x73, x74, x75, x76, x77, x78, x79, x80, x81, x82, x83, x84, x85, x86, x87, x88, x89, x90, x91, x92, x93, x94, x95, x96, x97, x98, x99, x100, x101, x102, x103, x104, x105, x106, x107, x108, x109, x110, x111, x112, x113, x114, x115, x116, x117, x118, x119, x120, x121, x122, x123, x124, x125, x126, x127, x128, x129, x130, x131, x132, x133, x134, x135, x136, x137, x138, x139, x140, x141, x142, x143, x144, x145, x146], []⟩ w := by
  subst ho
  have HS' := Lib.hid HS
  have HK' := Lib.hid HK
  have HQ' := Lib.hid hQ
  have hS0 := HS _ hw
  clear HS HK hQ
  dsimp only [ops19, opsAt, Tryz.f18, Option.getD]
  refine wp_region_held_drew (S := fun W => W.cell? ⟨b, 0, none⟩ = some (.slice sa sl sc) ∧ W.cell? ⟨b, 1, none⟩ = some (.slice fa fl fc) ∧ W.cell? ⟨b, 2, none⟩ = some (.int .i64 mn) ∧ W.cell? ⟨bf, 3, none⟩ = some (.slice (some ld) ll lc) ∧ W.cell? (ld.add j) = some (.int .i64 x) ∧ R W) (by kernel_rfl) (by exact ⟨(HS'.out _ (by assumption)).1, (HS'.out _ (by assumption)).2.1, (HS'.out _ (by assumption)).2.2.1, (HS'.out _ (by assumption)).2.2.2.1, (HS'.out _ (by assumption)).2.2.2.2, (by assumption)⟩) (fun hHeld => ?_)
  refine wpAnyH_take (i := 0) (v := ?_) rfl (by kernel_rfl) (by kernel_rfl) (by kernel_rfl) (fun _ _ _ h => h) (Or.inl ⟨by rfl, ?_⟩) (by assumption) ?_
  rotate_left 1
  · (intro w8 hSw; (try dsimp only at hSw); go_simp; try with_reducible rfl)
  try simp only [Act.put, List.getElem_toArray, List.getElem_cons_zero, List.setIfInBounds_toArray, List.set_cons_zero, List.set_cons_succ]
  refine wpAnyH_take (i := 1) (v := ?_) rfl (by kernel_rfl) (by kernel_rfl) (by kernel_rfl) (fun _ _ _ h => h) (Or.inl ⟨by rfl, ?_⟩) (by assumption) ?_
  rotate_left 1
  · (intro w8 hSw; (try dsimp only at hSw); go_simp; try with_reducible rfl)
  try simp only [Act.put, List.getElem_toArray, List.getElem_cons_zero, List.getElem_cons_succ, List.setIfInBounds_toArray, List.set_cons_zero, List.set_cons_succ]
  refine wpAnyH_take (i := 2) (v := ?_) rfl (by kernel_rfl) (by kernel_rfl) (by kernel_rfl) (fun _ _ _ h => h) (Or.inl ⟨by rfl, ?_⟩) (by assumption) ?_
  rotate_left 1
  · (intro w8 hSw; (try dsimp only at hSw); go_simp; try with_reducible rfl)
  try simp only [Act.put, List.getElem_toArray, List.getElem_cons_zero, List.getElem_cons_succ, List.setIfInBounds_toArray, List.set_cons_zero, List.set_cons_succ]
  refine wpAnyH_take (i := 3) (v := ?_) rfl (by kernel_rfl) (by kernel_rfl) (by kernel_rfl) (fun _ _ _ h => h) (Or.inl ⟨by rfl, ?_⟩) (by assumption) ?_
  rotate_left 1
  · (intro w8 hSw; (try dsimp only at hSw); go_simp; try with_reducible rfl)
  try simp only [Act.put, List.getElem_toArray, List.getElem_cons_zero, List.getElem_cons_succ, List.setIfInBounds_toArray, List.set_cons_zero, List.set_cons_succ]
  refine wpAnyH_take (i := 4) (v := ?_) rfl (by kernel_rfl) (by kernel_rfl) (by kernel_rfl) (fun _ _ _ h => h) (Or.inl ⟨by rfl, ?_⟩) (by assumption) ?_
  rotate_left 1
  · (intro w8 hSw; (try dsimp only at hSw); go_simp; try with_reducible rfl)
  try simp only [Act.put, List.getElem_toArray, List.getElem_cons_zero, List.getElem_cons_succ, List.setIfInBounds_toArray, List.set_cons_zero, List.set_cons_succ]
  refine wpAnyH_take (i := 5) (v := ?_) rfl (by kernel_rfl) (by kernel_rfl) (by kernel_rfl) (fun _ _ _ h => h) (Or.inl ⟨by rfl, ?_⟩) (by assumption) ?_
  rotate_left 1
  · (intro w8 hSw; (try dsimp only at hSw); go_simp; try with_reducible rfl)
  try simp only [Act.put, List.getElem_toArray, List.getElem_cons_zero, List.getElem_cons_succ, List.setIfInBounds_toArray, List.set_cons_zero, List.set_cons_succ]
  refine wpAnyH_ready (rs := [6]) (by kernel_rfl) (by simp) ?_
  refine AllReadyH.cons rfl (fun K hK => ?_) AllReadyH.nil
  go_simp
  go_at_call 26
  refine (HK'.out _ (by assumption)).mono ?_
  rintro e w' ⟨rfl, hR'⟩
  go_wp2_with fail
  refine hK.out _ _ (by exact ⟨(HS'.out _ hR').1, (HS'.out _ hR').2.1, (HS'.out _ hR').2.2.1, (HS'.out _ hR').2.2.2.1, (HS'.out _ hR').2.2.2.2, hR'⟩) (fun hHeld8 => ?_)
  clear hK K
  try simp only [Act.put, List.getElem_toArray, List.getElem_cons_zero, List.getElem_cons_succ, List.setIfInBounds_toArray, List.set_cons_zero, List.set_cons_succ]
  refine wpAnyH_take (i := 7) (v := ?_) rfl (by kernel_rfl) (by kernel_rfl) (by kernel_rfl) (fun _ _ _ h => h) (Or.inl ⟨by rfl, ?_⟩) (by assumption) ?_
  rotate_left 1
  · (intro w8 hSw; (try dsimp only at hSw); go_simp; try with_reducible rfl)
  try simp only [Act.put, List.getElem_toArray, List.getElem_cons_zero, List.getElem_cons_succ, List.setIfInBounds_toArray, List.set_cons_zero, List.set_cons_succ]
  refine wpAnyH_take (i := 8) (v := ?_) rfl (by kernel_rfl) (by kernel_rfl) (by kernel_rfl) (fun _ _ _ h => h) (Or.inl ⟨by rfl, ?_⟩) (by assumption) ?_
  rotate_left 1
  · (intro w8 hSw; (try dsimp only at hSw); go_simp; try with_reducible rfl)
  try simp only [Act.put, List.getElem_toArray, List.getElem_cons_zero, List.getElem_cons_succ, List.setIfInBounds_toArray, List.set_cons_zero, List.set_cons_succ]
  refine wpAnyH_take (i := 9) (v := undef) rfl ?_ ?_ ?_ ?_ ?_ ?_ ?_
  · kernel_rfl
  · kernel_rfl
  · kernel_rfl
  · exact fun _ _ _ h => h
  · refine Or.inr ⟨?_, ?_⟩
    · kernel_rfl
    · rfl
  · assumption
  try simp only [Act.put, List.getElem_toArray, List.getElem_cons_zero, List.getElem_cons_succ, List.setIfInBounds_toArray, List.set_cons_zero, List.set_cons_succ]
  refine wpAnyH_take (i := 10) (v := undef) rfl ?_ ?_ ?_ ?_ ?_ ?_ ?_
  · kernel_rfl
  · kernel_rfl
  · kernel_rfl
  · exact fun _ _ _ h => h
  · refine Or.inr ⟨?_, ?_⟩
    · kernel_rfl
    · rfl
  · assumption
  try simp only [Act.put, List.getElem_toArray, List.getElem_cons_zero, List.getElem_cons_succ, List.setIfInBounds_toArray, List.set_cons_zero, List.set_cons_succ]
  refine wpAnyH_take (i := 11) (v := undef) rfl ?_ ?_ ?_ ?_ ?_ ?_ ?_
  · kernel_rfl
  · kernel_rfl
  · kernel_rfl
  · exact fun _ _ _ h => h
  · refine Or.inr ⟨?_, ?_⟩
    · kernel_rfl
    · rfl
  · assumption
  try simp only [Act.put, List.getElem_toArray, List.getElem_cons_zero, List.getElem_cons_succ, List.setIfInBounds_toArray, List.set_cons_zero, List.set_cons_succ]
  refine wpAnyH_take (i := 12) (v := undef) rfl ?_ ?_ ?_ ?_ ?_ ?_ ?_
  · kernel_rfl
  · kernel_rfl
  · kernel_rfl
  · exact fun _ _ _ h => h
  · refine Or.inr ⟨?_, ?_⟩
    · kernel_rfl
    · rfl
  · assumption
  try simp only [Act.put, List.getElem_toArray, List.getElem_cons_zero, List.getElem_cons_succ, List.setIfInBounds_toArray, List.set_cons_zero, List.set_cons_succ]
  refine wpAnyH_take (i := 13) (v := undef) rfl ?_ ?_ ?_ ?_ ?_ ?_ ?_
  · kernel_rfl
  · kernel_rfl
  · kernel_rfl
  · exact fun _ _ _ h => h
  · refine Or.inr ⟨?_, ?_⟩
    · kernel_rfl
    · rfl
  · assumption
  try simp only [Act.put, List.getElem_toArray, List.getElem_cons_zero, List.getElem_cons_succ, List.setIfInBounds_toArray, List.set_cons_zero, List.set_cons_succ]
  refine wpAnyH_take (i := 14) (v := undef) rfl ?_ ?_ ?_ ?_ ?_ ?_ ?_
  · kernel_rfl
  · kernel_rfl
  · kernel_rfl
  · exact fun _ _ _ h => h
  · refine Or.inr ⟨?_, ?_⟩
    · kernel_rfl
    · rfl
  · assumption
  try simp only [Act.put, List.getElem_toArray, List.getElem_cons_zero, List.getElem_cons_succ, List.setIfInBounds_toArray, List.set_cons_zero, List.set_cons_succ]
  refine wpAnyH_take (i := 15) (v := undef) rfl ?_ ?_ ?_ ?_ ?_ ?_ ?_
  · kernel_rfl
  · kernel_rfl
  · kernel_rfl
  · exact fun _ _ _ h => h
  · refine Or.inr ⟨?_, ?_⟩
    · kernel_rfl
    · rfl
  · assumption
  try simp only [Act.put, List.getElem_toArray, List.getElem_cons_zero, List.getElem_cons_succ, List.setIfInBounds_toArray, List.set_cons_zero, List.set_cons_succ]
  refine wpAnyH_take (i := 16) (v := undef) rfl ?_ ?_ ?_ ?_ ?_ ?_ ?_
  · kernel_rfl
  · kernel_rfl
  · kernel_rfl
  · exact fun _ _ _ h => h
  · refine Or.inr ⟨?_, ?_⟩
    · kernel_rfl
    · rfl
  · assumption
  try simp only [Act.put, List.getElem_toArray, List.getElem_cons_zero, List.getElem_cons_succ, List.setIfInBounds_toArray, List.set_cons_zero, List.set_cons_succ]
  refine wpAnyH_take (i := 17) (v := undef) rfl ?_ ?_ ?_ ?_ ?_ ?_ ?_
  · kernel_rfl
  · kernel_rfl
  · kernel_rfl
  · exact fun _ _ _ h => h
  · refine Or.inr ⟨?_, ?_⟩
    · kernel_rfl
    · rfl
  · assumption
  try simp only [Act.put, List.getElem_toArray, List.getElem_cons_zero, List.getElem_cons_succ, List.setIfInBounds_toArray, List.set_cons_zero, List.set_cons_succ]
  refine wpAnyH_take (i := 18) (v := undef) rfl ?_ ?_ ?_ ?_ ?_ ?_ ?_
  · kernel_rfl
  · kernel_rfl
  · kernel_rfl
  · exact fun _ _ _ h => h
  · refine Or.inr ⟨?_, ?_⟩
    · kernel_rfl
    · rfl
  · assumption
  try simp only [Act.put, List.getElem_toArray, List.getElem_cons_zero, List.getElem_cons_succ, List.setIfInBounds_toArray, List.set_cons_zero, List.set_cons_succ]
  refine wpAnyH_take (i := 19) (v := undef) rfl ?_ ?_ ?_ ?_ ?_ ?_ ?_
  · kernel_rfl
  · kernel_rfl
  · kernel_rfl
  · exact fun _ _ _ h => h
  · refine Or.inr ⟨?_, ?_⟩
    · kernel_rfl
    · rfl
  · assumption
  try simp only [Act.put, List.getElem_toArray, List.getElem_cons_zero, List.getElem_cons_succ, List.setIfInBounds_toArray, List.set_cons_zero, List.set_cons_succ]
  refine wpAnyH_take (i := 20) (v := undef) rfl ?_ ?_ ?_ ?_ ?_ ?_ ?_
  · kernel_rfl
  · kernel_rfl
  · kernel_rfl
  · exact fun _ _ _ h => h
  · refine Or.inr ⟨?_, ?_⟩
    · kernel_rfl
    · rfl
  · assumption
  try simp only [Act.put, List.getElem_toArray, List.getElem_cons_zero, List.getElem_cons_succ, List.setIfInBounds_toArray, List.set_cons_zero, List.set_cons_succ]
  refine wpAnyH_take (i := 21) (v := ?_) rfl (by kernel_rfl) (by kernel_rfl) (by kernel_rfl) (fun _ _ _ h => h) (Or.inl ⟨by rfl, ?_⟩) (by assumption) ?_
  rotate_left 1
  · (intro w8 hSw; (try dsimp only at hSw); go_simp; try with_reducible rfl)
  try simp only [Act.put, List.getElem_toArray, List.getElem_cons_zero, List.getElem_cons_succ, List.setIfInBounds_toArray, List.set_cons_zero, List.set_cons_succ]
  refine wpAnyH_done (by kernel_rfl) ?_ _
  exact HQ'.out _ _ _ _ _ _ _ _ _ _ _ _ _ _ _ _ _ _ _ _ _ _ (by assumption)
set_option maxRecDepth 100000 in
set_option maxHeartbeats 16000000 in
theorem reg19_two {ops : Array Oper} (ho : ops = ops19) {Q : Exit → Act → World → Prop} {x0 x2 x3 x4 x5 x9 x10 x11 x12 x13 x14 x15 x16 x17 x18 x19 x20 x21 x22 x23 x24 x25 x26 x27 x28 x29 x30 x31 x32 x33 x34 x35 x36 x37 x38 x39 x40 x41 x42 x43 x44 x45 x46 x47 x48 x49 x50 x51 x52 x53 x54 x55 x56 x57 x58 x59 x60 x61 x62 x63 x64 x65 x66 x67 x68 x69 x70 x71 x72 x73 x74 x75 x76 x77 x78 x79 x80 x81 x82 x83 x84 x85 x86 x87 x88 x89 x90 x91 x92 x93 x94 x95 x96 x97 x98 x99 x100 x101 x102 x103 x104 x105 x106 x107 x108 x109 x110 x111 x112 x113 x114 x115 x116 x117 x118 x119 x120 x121 x122 x123 x124 x125 x126 x127 x128 x129 x130 x131 x132 x133 x134 x135 x136 x137 x138 x139 x140 x141 x142 x143 x144 x145 x146 : Value} {b bf k j : Nat} {fa : Option Addr} {sl sc fl fc ll lc : Nat} {mn : Int} (sd ld : Addr) (m : Nat) (fn : Int) (bb : Bool) {R : World → Prop} {w : World} (hw : R w.drew)
    (hj0 : (0 : Int) ≤ (j : Int)) (hj : (j : Int) < (ll : Int)) (hm0 : (0 : Int) ≤ (m : Int)) (hm : (m : Int) < (sl : Int)) (he : (fn != (k : Int)) = bb)
    (HS : ∀ W, R W → W.cell? ⟨b, 0, none⟩ = some (.slice (some sd) sl sc) ∧ W.cell? ⟨b, 1, none⟩ = some (.slice fa fl fc) ∧ W.cell? ⟨b, 2, none⟩ = some (.int .i64 mn) ∧ W.cell? ⟨bf, 3, none⟩ = some (.slice (some ld) ll lc) ∧ W.cell? (ld.add j) = some (.int .i64 (m : Int)) ∧ W.cell? ⟨(sd.add (m * 8)).block, (sd.add (m * 8)).off + 2, none⟩ = some (.int .i64 fn))
    (HK : ∀ W, R W → Calls Tryz.prog 26 #[.agg #[.slice (some sd) sl sc, .slice fa fl fc, .int .i64 mn], .int .i64 (m : Int)] W fun e w' => e = .returned (.int .i64 2) ∧ R w')
    (hQ : ∀ W u108 u109 u110 u111 u112 u113 u114 u115 u116 u117 u118 u119 u120 u121 u122 u123 u124 u125 u126 u127 u128, R W → Q .normal ⟨#[x0, .pointer (some ⟨b, 0, none⟩), x2, x3, x4, x5, .int .i64 (k : Int), .pointer (some ⟨bf, 0, none⟩), .int .i64 (j : Int), x9, x10, x11, x12, x13, x14, x15, x16, x17, x18, x19, x20, x21, x22, x23, x24, x25, x26, x27, x28, x29, x30, x31, x32, x33, x34, x35, x36, x37, x38, x39, x40, x41, x42, x43, x44, x45, x46, x47, x48, x49, x50, x51, x52, x53, x54, x55, x56, x57, x58, x59, x60, x61, x62, x63, x64, x65, x66, x67, x68, x69, x70, x71, x72, x73, x74, x75, x76, x77, x78, x79, x80, x81, x82, x83, x84, x85, x86, x87, x88, x89, x90, x91, x92, x93, x94, x95, x96, x97, x98, x99, x100, x101, x102, x103, x104, x105, x106, x107, u108, u109, u110, u111, u112, u113, u114, u115, u116, u117, u118, u119, u120, u121, u122, u123, u124, u125, u126, u127, u128, .bool bb, x130, x131, x132, x133, x134, x135, x136, x137, x138, x139, x140, x141, x142, x143, x144, x145, x146], []⟩ W) :
    (Code.region 19 ops true).wp Tryz.prog (NoPanic Q) ⟨#[x0, .pointer (some ⟨b, 0, none⟩), x2, x3, x4, x5, .int .i64 (k : Int), .pointer (some ⟨bf, 0, none⟩), .int .i64 (j : Int), x9, x10, x11, x12, x13, x14, x15, x16, x17, x18, x19, x20, x21, x22, x23, x24, x25, x26, x27, x28, x29, x30, x31, x32, x33, x34, x35, x36, x37, x38, x39, x40, x41, x42, x43, x44, x45, x46, x47, x48, x49, x50, x51, x52, x53, x54, x55, x56, x57, x58, x59, x60, x61, x62, x63, x64, x65, x66, x67, x68, x69, x70, x71, x72, x73, x74, x75, x76, x77, x78, x79, x80, x81, x82, x83, x84, x85, x86, x87, x88, x89, x90, x91, x92, x93, x94, x95, x96, x97, x98, x99, x100, x101, x102, x103, x104, x105, x106, x107, x108, x109, x110, x111, x112, x113, x114, x115, x116, x117, x118, x119, x120, x121, x122, x123, x124, x125, x126, x127, x128, x129, x130, x131, x132, x133, x134, x135, x136, x137, x138, x139, x140, x141, x142, x143, x144, x145, x146], []⟩ w := by
  subst ho
  have HS' := Lib.hid HS
  have HK' := Lib.hid HK
  have HQ' := Lib.hid hQ
  have hS0 := HS _ hw
  clear HS HK hQ
  dsimp only [ops19, opsAt, Tryz.f18, Option.getD]
  go_region_held3 (fun W => W.cell? ⟨b, 0, none⟩ = some (.slice (some sd) sl sc) ∧ W.cell? ⟨b, 1, none⟩ = some (.slice fa fl fc) ∧ W.cell? ⟨b, 2, none⟩ = some (.int .i64 mn) ∧ W.cell? ⟨bf, 3, none⟩ = some (.slice (some ld) ll lc) ∧ W.cell? (ld.add j) = some (.int .i64 (m : Int)) ∧ W.cell? ⟨(sd.add (m * 8)).block, (sd.add (m * 8)).off + 2, none⟩ = some (.int .i64 fn) ∧ R W) (exact ⟨(HS'.out _ (by assumption)).1, (HS'.out _ (by assumption)).2.1, (HS'.out _ (by assumption)).2.2.1, (HS'.out _ (by assumption)).2.2.2.1, (HS'.out _ (by assumption)).2.2.2.2.1, (HS'.out _ (by assumption)).2.2.2.2.2, (by assumption)⟩)
    (first | (go_at_call 26; refine (HK'.out _ (by assumption)).mono ?_; rintro e w' ⟨rfl, hR'⟩))
  exact HQ'.out _ _ _ _ _ _ _ _ _ _ _ _ _ _ _ _ _ _ _ _ _ _ (by assumption)

end Go.Proofs.YtajmkdbokdjmeaaGreat
/- The document's Check. -/
namespace Go.Proofs.YtajmkdbokdjmeaaGreat
open Go.RowKit
theorem bigB_and {f : Fun'} (h : bigB f = true) : f.code.length = 0 ∨ 4000 < f.code.length ∨ 4000 < f.regs ∨ f.regs < f.params ∨ f.params < 0 := of_decide_eq_true h
theorem bigB_not {f : Fun'} (h : bigB f = false) : ¬ (f.code.length = 0 ∨ 4000 < f.code.length ∨ 4000 < f.regs ∨ f.regs < f.params ∨ f.params < 0) := of_decide_eq_false h
theorem funE_big {p : Prg} {k : Nat} {f : Fun'} (h : bigB f = true) : funE p k f = (0, 5) := by
  have e : headF p k f = 5 := by unfold headF; rw [h]; rfl
  unfold funE; rw [e]; rfl
theorem funE_no {p : Prg} {k : Nat} {f : Fun'} (h : bigB f = false) (h2 : f.locals.all (locB p k) = false) : funE p k f = (0, 8) := by
  have e : headF p k f = 8 := by unfold headF; rw [h]; exact locE_no h2
  unfold funE; rw [e]; rfl
theorem funE_yes {p : Prg} {k : Nat} {f : Fun'} (h : bigB f = false) (h2 : f.locals.all (locB p k) = true) : funE p k f = bodyF p f 0 f.code := by
  have e : headF p k f = 0 := by unfold headF; rw [h]; exact locE_yes h2
  unfold funE; rw [e]; rfl
theorem checkP_no {p : Prg} (h1 : p.fns.length ≤ 200) (h2 : p.sites.length ≤ 600) (h : (inB p.main p.fns.length && eachB p) = false) : checkP p = (0, 0, 8) := by
  unfold checkP; rw [if_neg (by omega), if_neg (by rw [h]; decide)]
theorem checkP_yes {p : Prg} (h1 : p.fns.length ≤ 200) (h2 : p.sites.length ≤ 600) (h : (inB p.main p.fns.length && eachB p) = true) : checkP p = fnsP p 0 p.fns := by
  unfold checkP; rw [if_neg (by omega), if_pos h]
/-- The cells that a round over locals reads. -/
structure LcBox (p : Prg) (f : Fun') (b bf : Nat) (w0 w1 W : World) : Prop where
  hp : BoxC (prgC p) 25 b W
  hf : BoxC (funC f) 39 bf W
  k : CellsK w1 W
  g : w0.grownBy W none
theorem LcBox.gr {p : Prg} {f : Fun'} {b bf : Nat} {w0 w1 W W' : World} (h : LcBox p f b bf w0 w1 W) (g : W.grownBy W' none) : LcBox p f b bf w0 w1 W' := ⟨h.hp.gr g, h.hf.gr g, h.k.trans (CellsK.of g), grownBy_trans h.g g⟩
theorem LcBox.drew {p : Prg} {f : Fun'} {b bf : Nat} {w0 w1 W : World} (h : LcBox p f b bf w0 w1 W) : LcBox p f b bf w0 w1 W.drew := ⟨h.hp, h.hf, h.k, h.g.gr_drew⟩
def SrRel (p : Prg) (w : World) (v : Value) (wr : World) : Prop := ∃ k : Nat, k ≤ p.sites.length ∧ v = .int .i64 k ∧ sitesB p k = true ∧ BoxC (prgC p) 25 w.heap.size wr ∧ w.grownBy wr none
def LcRel (p : Prg) (n : Nat) (f : Fun') (w : World) (bf : Nat) (v : Value) (wr : World) : Prop :=
  ∃ j : Nat, j ≤ f.locals.length ∧ v = .int .i64 j ∧ (f.locals.take j).all (locB p n) = true ∧ BoxC (prgC p) 25 w.heap.size wr ∧ BoxC (funC f) 39 bf wr ∧ w.grownBy wr none
def CdRel (p : Prg) (f : Fun') (w : World) (bf : Nat) (v : Value) (wr : World) : Prop :=
  ∃ j : Nat, j ≤ f.code.length ∧ v = .int .i64 j ∧ bodyF p f j (f.code.drop j) = bodyF p f 0 f.code ∧ BoxC (prgC p) 25 w.heap.size wr ∧ BoxC (funC f) 39 bf wr ∧ w.grownBy wr none
set_option maxRecDepth 100000 in
set_option maxHeartbeats 16000000 in
theorem refCheck_main (p : Prg) (w : World) (hp : PrgOk w p) (h1 : p.fns.length ≤ 200) (h2 : p.sites.length ≤ 600) (hin : inB p.main p.fns.length = true) (hle : p.fns.length ≤ p.sites.length) :
    Calls Tryz.prog 18 #[prgV p] w fun e w' => e = .returned (triV (checkP p)) ∧ w.grownBy w' none := by
  have HP := Lib.hid hp
  have hg0 : w.grownBy (w.alloc (.cells (prgC p) 25)) none := by repeat (first | with_reducible exact grownBy_refl _ _ | with_reducible assumption | with_reducible refine World.grownBy.gr_drew ?_ | with_reducible refine World.grownBy.gr_set ?_ (by simp) _ | with_reducible refine gr_alloc ?_ _)
  have HB0 := Lib.hid (BoxC.new w (prgC p) 25)
  have HG0 := Lib.hid hg0
  have hmm : 0 ≤ p.main ∧ p.main < p.fns.length := by unfold inB at hin; exact of_decide_eq_true hin
  have HNOC := Lib.hid (fun (h : sitesB p p.sites.length = false) => checkP_no h1 h2 (by rw [hin]; unfold eachB; rw [h]; simp))
  have HYESC := Lib.hid (fun (h : sitesB p p.sites.length = true) => checkP_yes h1 h2 (by rw [hin]; unfold eachB; rw [h, decide_eq_true hle]; rfl))
  have m1 : decide (200 < (p.fns.length : Int)) = false := decide_eq_false (by omega)
  have m2 : decide (600 < (p.sites.length : Int)) = false := decide_eq_false (by omega)
  have m3 : decide (p.main < 0) = false := decide_eq_false (by omega)
  have m4 : decide ((p.fns.length : Int) ≤ p.main) = false := decide_eq_false (by omega)
  have m5 : ¬ p.sites.length < p.fns.length := by omega
  clear hp hg0 hin hmm
  unfold prgV
  unfold prgC at HB0 HG0
  unfold prgC
  go_enter Tryz.func18, Tryz.ntmps18
  go_wp2_with fail
  go_loopw [5] (fun v wr => SrRel p w v wr) (fun v _ => p.sites.length - (intOf v).toNat)
  case atStart => exact ⟨0, Nat.zero_le _, rfl, rfl, HB0.out, HG0.out⟩
  case round =>
    obtain ⟨k, hk, rfl, hsb, hbox, hgr⟩ := hrel
    have HS := Lib.hid hsb
    have HG := Lib.hid hgr
    have HB := Lib.hid hbox
    clear hsb m1 m2 m3 m4 m5
    obtain ⟨b0, b1, b2⟩ := boxP hbox
    by_cases hkl : k < p.sites.length
    · obtain ⟨sd, hsd, c0, _⟩ := sit_cells (HP.out.2.2.1.keep (CellsK.of hgr)) hkl
      have HK := Lib.hid (kindP_in hkl)
      generalize p.sites[k] = s at *
      generalize hsa : p.sa = sa at *
      subst hsd
      clear hgr hbox
      by_cases h4 : s.kind = 4
      · have e4 : (s.kind == 4) = true := by simpa using h4
        have N4 := Lib.hid (show kindP p (k : Int) = 4 by rw [HK.out]; exact h4)
        clear h4
        by_cases hkf : k < p.fns.length
        · go_wp2_with fail
          go_quiet (fail)
          go_wp2_with fail
          go_roundw
          case rel => exact ⟨k + 1, by omega, by go_num, by rw [sitesB_succ, HS.out, Bool.true_and]; simp [N4.out, hkf], HB.out.gr (gr_drewN (grownBy_refl _ _) _), gr_drewN HG.out _⟩
          case measure => simp [intOf]; omega
        · go_wp2_with fail
          go_quiet (fail)
          go_wp2_with fail
          refine bodyPost_ret (v := .tuple #[.int .i64 0, .int .i64 0, .int .i64 8]) (by simp [results, Tryz.results18, go_sem]) rfl ⟨ret_tri (HNOC.out (sitesB_false hkl (by simp [N4.out, hkf]))), gr_drewN HG.out _⟩
      · have e4 : (s.kind == 4) = false := by simpa using h4
        have N4 := Lib.hid (show ¬ kindP p (k : Int) = 4 by rw [HK.out]; exact h4)
        clear h4
        by_cases hkf : k < p.fns.length
        · go_wp2_with fail
          go_quiet (fail)
          go_wp2_with fail
          refine bodyPost_ret (v := .tuple #[.int .i64 0, .int .i64 0, .int .i64 8]) (by simp [results, Tryz.results18, go_sem]) rfl ⟨ret_tri (HNOC.out (sitesB_false hkl (by simp [N4.out, hkf]))), gr_drewN HG.out _⟩
        · go_wp2_with fail
          go_quiet (fail)
          go_wp2_with fail
          go_roundw
          case rel => exact ⟨k + 1, by omega, by go_num, by rw [sitesB_succ, HS.out, Bool.true_and]; simp [N4.out, hkf], HB.out.gr (gr_drewN (grownBy_refl _ _) _), gr_drewN HG.out _⟩
          case measure => simp [intOf]; omega
    · have hkk : k = p.sites.length := by omega
      subst hkk
      have HCK := Lib.hid (HYESC.out HS.out)
      clear hgr hbox HNOC HYESC hle
      go_wp2_with fail
      go_loopw [6] (fun v wr => CkRel p w v wr) (fun v _ => p.fns.length - (intOf v).toNat)
      case atStart => exact ⟨0, Nat.zero_le _, rfl, rfl, HG.out, HB.out⟩
      case round =>
        obtain ⟨k, hk, rfl, hfn, hgr, hbx⟩ := hrel
        have HFN := Lib.hid hfn
        have HG := Lib.hid hgr
        have HB := Lib.hid hbx
        clear hfn b0 b1 b2
        obtain ⟨b0, b1, b2⟩ := boxP hbx
        by_cases hlt : k < p.fns.length
        · obtain ⟨ad, ha, f0, f1, f2, f3, f4⟩ := fun_cells (HP.out.2.2.2.1.keep (CellsK.of hgr)) hlt
          have HFK := Lib.hid (HP.out.2.2.2.2 _ (List.getElem_mem hlt))
          have HGO := Lib.hid (fun (h : (funE p k p.fns[k]).2 = 0) => (fnsP_go hlt h).symm.trans HFN.out)
          have HST := Lib.hid (fun (pc e : Int) (h : funE p k p.fns[k] = (pc, e)) (he : e ≠ 0) => HFN.out.symm.trans (fnsP_stop hlt h he))
          generalize p.fns[k] = f at *
          rw [ha] at b1
          clear ha
          have hbl := lt_of_heap hbx
          have HGF := Lib.hid (show w.grownBy (wr.alloc (.cells (funC f) 39)) none from gr_alloc hgr _)
          have HBF := Lib.hid (show BoxC (funC f) 39 wr.heap.size (wr.alloc (.cells (funC f) 39)) from BoxC.new wr _ _)
          have HBP := Lib.hid (show BoxC (prgC p) 25 w.heap.size (wr.alloc (.cells (funC f) 39)) from hbx.gr (gr_alloc (grownBy_refl _ _) _))
          have hfl := HFK.out.2.1
          have hfc := HFK.out.2.2.1
          unfold maxLen at hfl hfc
          unfold funC at HGF HBF HBP
          clear hgr hbx
          rcases hbg' : bigB f
          · have hbg := bigB_not hbg'
            have HBG := Lib.hid hbg'
            have e1 : ((f.code.length : Int) == 0) = false := beq_eq_false_iff_ne.2 (by omega)
            have e2 : decide (4000 < (f.code.length : Int)) = false := decide_eq_false (by omega)
            have e3 : decide (4000 < f.regs) = false := decide_eq_false (by omega)
            have e4 : decide (f.regs < f.params) = false := decide_eq_false (by omega)
            have e5 : decide (f.params < 0) = false := decide_eq_false (by omega)
            have HNOL := Lib.hid (fun (h : f.locals.all (locB p k) = false) => HCK.out.trans (HST.out 0 8 (funE_no HBG.out h) (by decide)))
            have HFY := Lib.hid (fun (h : f.locals.all (locB p k) = true) => funE_yes (p := p) (k := k) HBG.out h)
            clear hbg hbg'
            go_wp2_with fail
            generalize wr.heap.size = bf at *
            go_loopw [8] (fun v wx => LcRel p k f w bf v wx) (fun v _ => f.locals.length - (intOf v).toNat)
            case atStart => exact ⟨0, Nat.zero_le _, rfl, rfl, HBP.out, HBF.out, HGF.out⟩
            case round =>
              obtain ⟨j, hj, rfl, hall, hbp, hbf, hgx⟩ := hrel
              have HAL := Lib.hid hall
              have HG3 := Lib.hid hgx
              have HBP3 := Lib.hid hbp
              have HBF3 := Lib.hid hbf
              clear hall e1 e2 e3 e4 e5 b0 b1 b2 f0 f1 f2 f3 f4
              obtain ⟨b0, b1, b2⟩ := boxP hbp
              obtain ⟨f0, f1, f2, f3, f4⟩ := boxF hbf
              by_cases hjl : j < f.locals.length
              · obtain ⟨ld, hla, hx⟩ := (HFK.out.1.keep (CellsK.of hgx)).at_ hjl
                have HTK := Lib.hid (show (f.locals.take (j + 1)).all (locB p k) = locB p k f.locals[j] by rw [List.take_succ_eq_append_getElem hjl, List.all_append, HAL.out]; simp)
                have HNO := Lib.hid (show locB p k f.locals[j] = false → f.locals.all (locB p k) = false from fun h => List.all_eq_false.2 ⟨_, List.getElem_mem hjl, by simp [h]⟩)
                generalize f.locals[j] = x at *
                have hlx : LcBox p f w.heap.size bf w wr wr := ⟨hbp, hbf, CellsK.refl _, hgx⟩
                have hlxd := hlx.drew
                have HKA := Lib.hid (fun W (h : LcBox p f w.heap.size bf w wr W) => Kind_any p x W (HP.out.keep (CellsK.of h.g)))
                have HLA := Lib.hid hla
                rw [hla] at f3
                have hj0 : (0 : Int) ≤ (j : Int) := by omega
                have hji : (j : Int) < (f.locals.length : Int) := by omega
                clear hbp hbf hgx hla
                by_cases hk2 : kindP p x = 2
                · have hin : 0 ≤ x ∧ x < (p.sites.length : Int) := by
                    by_cases h : x < 0 ∨ (p.sites.length : Int) ≤ x
                    · rw [kindP_out h] at hk2; exact absurd hk2 (by decide)
                    · omega
                  obtain ⟨m, rfl⟩ : ∃ m : Nat, x = m := ⟨x.toNat, by omega⟩
                  have hm : m < p.sites.length := by omega
                  have hm0 : (0 : Int) ≤ (m : Int) := by omega
                  have hmi : (m : Int) < (p.sites.length : Int) := by omega
                  obtain ⟨sd, hsd, _, _, s2, _⟩ := sit_cells ((HP.out.keep (CellsK.of HG3.out)).2.2.1) hm
                  have HF := Lib.hid (funcOf_in hm)
                  have HKD := Lib.hid (fun W (h : LcBox p f w.heap.size bf w wr W) => show Calls Tryz.prog 26 #[.agg #[.slice (some sd) p.sites.length p.sc, .slice p.fa p.fns.length p.fc, .int .i64 p.main], .int .i64 (m : Int)] W (fun e w' => e = .returned (.int .i64 2) ∧ W.grownBy w' none) from by
                    have h2 := HKA.out W h
                    rw [hk2, show prgV p = .agg #[.slice (some sd) p.sites.length p.sc, .slice p.fa p.fns.length p.fc, .int .i64 p.main] by unfold prgV prgC; rw [hsd]] at h2
                    exact h2)
                  have HSD := Lib.hid hsd
                  rw [hsd] at b0
                  have HK2 := Lib.hid hk2
                  clear hin hk2 HKA hsd
                  generalize p.sites[m] = s at *
                  have HRD := Lib.hid (fun W (h : LcBox p f w.heap.size bf w wr W) => show W.cell? ⟨w.heap.size, 0, none⟩ = some (.slice (some sd) p.sites.length p.sc) ∧ W.cell? ⟨w.heap.size, 1, none⟩ = some (.slice p.fa p.fns.length p.fc) ∧ W.cell? ⟨w.heap.size, 2, none⟩ = some (.int .i64 p.main) ∧ W.cell? ⟨bf, 3, none⟩ = some (.slice (some ld) f.locals.length f.lc) ∧ W.cell? (ld.add j) = some (.int .i64 (m : Int)) ∧ W.cell? ⟨(sd.add (m * 8)).block, (sd.add (m * 8)).off + 2, none⟩ = some (.int .i64 s.func) ∧ LcBox p f w.heap.size bf w wr W from ⟨by have q := (boxP h.hp).1; rw [HSD.out] at q; exact q, (boxP h.hp).2.1, (boxP h.hp).2.2, by have q := (boxF h.hf).2.2.2.1; rw [HLA.out] at q; exact q, h.k.2 _ _ hx, h.k.2 _ _ s2, h⟩)
                  by_cases hfn : s.func = (k : Int)
                  · have e3 : (s.func != (k : Int)) = false := by simpa using hfn
                    have HLB := Lib.hid (show locB p k (m : Int) = true by unfold locB; rw [HK2.out, HF.out, hfn]; simp)
                    clear hfn
                    go_wp2_with fail
                    refine wp_region_noPanic (reg19_two (R := fun W => LcBox p f w.heap.size bf w wr W) (by kernel_rfl) sd ld m s.func false hlxd hj0 hji hm0 hmi e3 (fun W h => ⟨(HRD.out W h).1, (HRD.out W h).2.1, (HRD.out W h).2.2.1, (HRD.out W h).2.2.2.1, (HRD.out W h).2.2.2.2.1, (HRD.out W h).2.2.2.2.2.1⟩) (fun W h => (HKD.out W h).mono fun e w' hh => ⟨hh.1, LcBox.gr h hh.2⟩) ?_)
                    intro W _ _ _ _ _ _ _ _ _ _ _ _ _ _ _ _ _ _ _ _ _ hbx7
                    clear hlxd hlx HKD HRD
                    go_wp2_with fail
                    go_roundw
                    case rel => exact ⟨j + 1, by omega, by go_num, by rw [HTK.out, HLB.out], hbx7.hp, hbx7.hf, hbx7.g⟩
                    case measure => simp [intOf]; omega
                  · have e3 : (s.func != (k : Int)) = true := by simpa using hfn
                    have HLB := Lib.hid (show locB p k (m : Int) = false by unfold locB; rw [HK2.out, HF.out]; simpa using hfn)
                    clear hfn
                    go_wp2_with fail
                    refine wp_region_noPanic (reg19_two (R := fun W => LcBox p f w.heap.size bf w wr W) (by kernel_rfl) sd ld m s.func true hlxd hj0 hji hm0 hmi e3 (fun W h => ⟨(HRD.out W h).1, (HRD.out W h).2.1, (HRD.out W h).2.2.1, (HRD.out W h).2.2.2.1, (HRD.out W h).2.2.2.2.1, (HRD.out W h).2.2.2.2.2.1⟩) (fun W h => (HKD.out W h).mono fun e w' hh => ⟨hh.1, LcBox.gr h hh.2⟩) ?_)
                    intro W _ _ _ _ _ _ _ _ _ _ _ _ _ _ _ _ _ _ _ _ _ hbx7
                    clear hlxd hlx HKD HRD
                    go_wp2_with fail
                    refine bodyPost_ret (v := .tuple #[.int .i64 (k : Int), .int .i64 0, .int .i64 8]) (by simp [results, Tryz.results18, go_sem]) rfl ⟨ret_tri (HNOL.out (HNO.out HLB.out)), hbx7.g⟩
                · have e2 : (kindP p x != 2) = true := by simpa using hk2
                  have HLB := Lib.hid (show locB p k x = false by unfold locB; rw [beq_eq_false_iff_ne.2 hk2]; rfl)
                  have HKD := Lib.hid (fun W (h : LcBox p f w.heap.size bf w wr W) => show Calls Tryz.prog 26 #[.agg #[.slice p.sa p.sites.length p.sc, .slice p.fa p.fns.length p.fc, .int .i64 p.main], .int .i64 x] W _ from HKA.out W h)
                  have HRD := Lib.hid (fun W (h : LcBox p f w.heap.size bf w wr W) => show W.cell? ⟨w.heap.size, 0, none⟩ = some (.slice p.sa p.sites.length p.sc) ∧ W.cell? ⟨w.heap.size, 1, none⟩ = some (.slice p.fa p.fns.length p.fc) ∧ W.cell? ⟨w.heap.size, 2, none⟩ = some (.int .i64 p.main) ∧ W.cell? ⟨bf, 3, none⟩ = some (.slice (some ld) f.locals.length f.lc) ∧ W.cell? (ld.add j) = some (.int .i64 x) ∧ LcBox p f w.heap.size bf w wr W from ⟨by have q := (boxP h.hp).1; exact q, (boxP h.hp).2.1, (boxP h.hp).2.2, by have q := (boxF h.hf).2.2.2.1; rw [HLA.out] at q; exact q, h.k.2 _ _ hx, h⟩)
                  clear HKA hk2
                  generalize kindP p x = kd at *
                  go_wp2_with fail
                  refine wp_region_noPanic (reg19_one (R := fun W => LcBox p f w.heap.size bf w wr W) (by kernel_rfl) p.sa ld x kd hlxd hj0 hji e2 (fun W h => ⟨(HRD.out W h).1, (HRD.out W h).2.1, (HRD.out W h).2.2.1, (HRD.out W h).2.2.2.1, (HRD.out W h).2.2.2.2.1⟩) (fun W h => (HKD.out W h).mono fun e w' hh => ⟨hh.1, LcBox.gr h hh.2⟩) ?_)
                  intro W _ _ _ _ _ _ _ _ _ _ _ _ _ _ _ _ _ _ _ _ _ hbx7
                  clear hlxd hlx HKD HRD
                  go_wp2_with fail
                  refine bodyPost_ret (v := .tuple #[.int .i64 (k : Int), .int .i64 0, .int .i64 8]) (by simp [results, Tryz.results18, go_sem]) rfl ⟨ret_tri (HNOL.out (HNO.out HLB.out)), hbx7.g⟩
              · have hkk : j = f.locals.length := by omega
                subst hkk
                have HALL := Lib.hid (HFY.out (by have := HAL.out; rwa [List.take_length] at this))
                clear hbp hbf hgx
                go_wp2_with fail
                go_loopw [9] (fun v wx => CdRel p f w bf v wx) (fun v _ => f.code.length - (intOf v).toNat)
                case atStart => exact ⟨0, Nat.zero_le _, rfl, rfl, HBP3.out, HBF3.out, HG3.out⟩
                case round =>
                  obtain ⟨c, hc, rfl, hbd, hbp, hbf, hgx⟩ := hrel
                  have HBD := Lib.hid hbd
                  have HG4 := Lib.hid hgx
                  have HBP4 := Lib.hid hbp
                  have HBF4 := Lib.hid hbf
                  clear hbd b0 b1 b2 f0 f1 f2 f3 f4
                  obtain ⟨b0, b1, b2⟩ := boxP hbp
                  obtain ⟨f0, f1, f2, f3, f4⟩ := boxF hbf
                  by_cases hcl : c < f.code.length
                  · have HIN := Lib.hid (show Calls Tryz.prog 27 #[.agg #[.slice p.sa p.sites.length p.sc, .slice p.fa p.fns.length p.fc, .int .i64 p.main], .agg #[.string f.name, .int .i64 f.regs, .int .i64 f.params, .slice f.la f.locals.length f.lc, .slice f.ca f.code.length f.cc], .int .i64 (c : Int)] wr _ from Insn_any p f c hcl wr (HP.out.keep (CellsK.of hgx)) (HFK.out.keep (CellsK.of hgx)))
                    have HGO3 := Lib.hid (fun (h : insE p f c f.code[c] = 0) => (bodyF_go (p := p) hcl h).symm.trans HBD.out)
                    have HST3 := Lib.hid (fun (e : Int) (h : insE p f c f.code[c] = e) (he : e ≠ 0) => HALL.out.trans (HBD.out.symm.trans (bodyF_stop (p := p) (e := e) hcl h he)))
                    generalize insE p f c f.code[c] = er at *
                    clear hbp hbf hgx
                    go_wp2_with fail
                    refine (HIN.out).mono ?_
                    rintro e w7 ⟨rfl, hg7⟩
                    have HG7 := Lib.hid (grownBy_trans HG4.out hg7)
                    have HBP7 := Lib.hid (HBP4.out.gr hg7)
                    have HBF7 := Lib.hid (HBF4.out.gr hg7)
                    clear hg7 HG4 HBP4 HBF4 HIN b0 b1 b2 f0 f1 f2 f3 f4
                    by_cases her : er = 0
                    · have e6 : (er != 0) = false := by simpa using her
                      have HER := Lib.hid her
                      clear her
                      go_wp2_with fail
                      go_roundw
                      case rel => exact ⟨c + 1, by omega, by go_num, HGO3.out HER.out, HBP7.out, HBF7.out, HG7.out⟩
                      case measure => simp [intOf]; omega
                    · have e6 : (er != 0) = true := by simpa using her
                      have HER := Lib.hid her
                      clear her
                      go_wp2_with fail
                      refine bodyPost_ret (v := .tuple #[.int .i64 (k : Int), .int .i64 (c : Int), .int .i64 er]) (by simp [results, Tryz.results18, go_sem]) rfl ⟨ret_tri (HCK.out.trans (HST.out _ er (HST3.out er rfl HER.out) HER.out)), HG7.out⟩
                  · have hkk : c = f.code.length := by omega
                    subst hkk
                    have HGO2 := Lib.hid (HGO.out (by rw [HALL.out, ← HBD.out, List.drop_length]; rfl))
                    clear hbp hbf hgx
                    go_wp2_with fail
                    go_roundw
                    case rel => exact ⟨k + 1, by omega, by go_num, HGO2.out, HG4.out, HBP4.out⟩
                    case measure => simp [intOf]; omega
          · have hbg := bigB_and hbg'
            have HFB := Lib.hid (funE_big (p := p) (k := k) hbg')
            clear hbg'
            by_cases h2 : 4000 < f.code.length
            · have e2 : decide (4000 < (f.code.length : Int)) = true := decide_eq_true (by omega)
              clear hbg h2
              go_wp2_with fail
              refine bodyPost_ret (v := .tuple #[.int .i64 (k : Int), .int .i64 0, .int .i64 5]) (by simp [results, Tryz.results18, go_sem]) rfl ⟨ret_tri (HCK.out.trans (HST.out 0 5 HFB.out (by decide))), HGF.out⟩
            by_cases h1 : f.code.length = 0
            · have e2 : decide (4000 < (f.code.length : Int)) = false := decide_eq_false (by omega)
              have e1 : ((f.code.length : Int) == 0) = true := beq_iff_eq.2 (by omega)
              clear hbg h1 h2
              go_wp2_with fail
              refine bodyPost_ret (v := .tuple #[.int .i64 (k : Int), .int .i64 0, .int .i64 5]) (by simp [results, Tryz.results18, go_sem]) rfl ⟨ret_tri (HCK.out.trans (HST.out 0 5 HFB.out (by decide))), HGF.out⟩
            by_cases h3 : 4000 < f.regs
            · have e2 : decide (4000 < (f.code.length : Int)) = false := decide_eq_false (by omega)
              have e1 : ((f.code.length : Int) == 0) = false := beq_eq_false_iff_ne.2 (by omega)
              have e3 : decide (4000 < f.regs) = true := decide_eq_true (by omega)
              clear hbg h1 h2 h3
              go_wp2_with fail
              refine bodyPost_ret (v := .tuple #[.int .i64 (k : Int), .int .i64 0, .int .i64 5]) (by simp [results, Tryz.results18, go_sem]) rfl ⟨ret_tri (HCK.out.trans (HST.out 0 5 HFB.out (by decide))), HGF.out⟩
            by_cases h4 : f.regs < f.params
            · have e2 : decide (4000 < (f.code.length : Int)) = false := decide_eq_false (by omega)
              have e1 : ((f.code.length : Int) == 0) = false := beq_eq_false_iff_ne.2 (by omega)
              have e3 : decide (4000 < f.regs) = false := decide_eq_false (by omega)
              have e4 : decide (f.regs < f.params) = true := decide_eq_true (by omega)
              clear hbg h1 h2 h3 h4
              go_wp2_with fail
              refine bodyPost_ret (v := .tuple #[.int .i64 (k : Int), .int .i64 0, .int .i64 5]) (by simp [results, Tryz.results18, go_sem]) rfl ⟨ret_tri (HCK.out.trans (HST.out 0 5 HFB.out (by decide))), HGF.out⟩
            · have h5 : f.params < 0 := by omega
              have e2 : decide (4000 < (f.code.length : Int)) = false := decide_eq_false (by omega)
              have e1 : ((f.code.length : Int) == 0) = false := beq_eq_false_iff_ne.2 (by omega)
              have e3 : decide (4000 < f.regs) = false := decide_eq_false (by omega)
              have e4 : decide (f.regs < f.params) = false := decide_eq_false (by omega)
              have e5 : decide (f.params < 0) = true := decide_eq_true (by omega)
              clear hbg h1 h2 h3 h4 h5
              go_wp2_with fail
              refine bodyPost_ret (v := .tuple #[.int .i64 (k : Int), .int .i64 0, .int .i64 5]) (by simp [results, Tryz.results18, go_sem]) rfl ⟨ret_tri (HCK.out.trans (HST.out 0 5 HFB.out (by decide))), HGF.out⟩
        · have hkk : k = p.fns.length := by omega
          subst hkk
          have HALL := Lib.hid (show fnsP p 0 p.fns = (0, 0, 0) by have h := HFN.out; rw [List.drop_length] at h; exact h.symm)
          clear hbx hgr
          go_wp2_with fail
          refine bodyPost_ret (v := .tuple #[.int .i64 0, .int .i64 0, .int .i64 0]) (by simp [results, Tryz.results18, go_sem]) rfl ⟨ret_tri (HCK.out.trans HALL.out), HG.out⟩

end Go.Proofs.YtajmkdbokdjmeaaGreat
/- The document's Check, whatever the program. -/
namespace Go.Proofs.YtajmkdbokdjmeaaGreat
open Go.RowKit
section
variable (p : Prg) (w : World) (hp : PrgOk w p)
include hp
set_option maxRecDepth 100000 in
set_option maxHeartbeats 4000000 in
theorem refCheck_size (h : 200 < p.fns.length ∨ 600 < p.sites.length) : Calls Tryz.prog 18 #[prgV p] w fun e w' => e = .returned (triV (0, 0, 5)) ∧ w.grownBy w' none := by
  have l1 := hp.1
  have l2 := hp.2.1
  unfold maxLen at l1 l2
  by_cases h1 : 200 < p.fns.length
  · have e1 : decide (200 < (p.fns.length : Int)) = true := decide_eq_true (by omega)
    clear h h1 hp
    unfold prgV prgC
    go_enter Tryz.func18, Tryz.ntmps18
    go_wp2_with fail
    refine bodyPost_ret (v := .tuple #[.int .i64 0, .int .i64 0, .int .i64 5]) (by simp [results, Tryz.results18, go_sem]) rfl ⟨rfl, by repeat (first | with_reducible exact grownBy_refl _ _ | with_reducible assumption | with_reducible refine World.grownBy.gr_drew ?_ | with_reducible refine World.grownBy.gr_set ?_ (by simp) _ | with_reducible refine gr_alloc ?_ _)⟩
  · have e1 : decide (200 < (p.fns.length : Int)) = false := decide_eq_false (by omega)
    have e2 : decide (600 < (p.sites.length : Int)) = true := decide_eq_true (by omega)
    clear h h1 hp
    unfold prgV prgC
    go_enter Tryz.func18, Tryz.ntmps18
    go_wp2_with fail
    refine bodyPost_ret (v := .tuple #[.int .i64 0, .int .i64 0, .int .i64 5]) (by simp [results, Tryz.results18, go_sem]) rfl ⟨rfl, by repeat (first | with_reducible exact grownBy_refl _ _ | with_reducible assumption | with_reducible refine World.grownBy.gr_drew ?_ | with_reducible refine World.grownBy.gr_set ?_ (by simp) _ | with_reducible refine gr_alloc ?_ _)⟩
omit hp in
set_option maxRecDepth 100000 in
set_option maxHeartbeats 4000000 in
theorem refCheck_range (h1 : p.fns.length ≤ 200) (h2 : p.sites.length ≤ 600) (h : inB p.main p.fns.length = false ∨ p.sites.length < p.fns.length) : Calls Tryz.prog 18 #[prgV p] w fun e w' => e = .returned (triV (0, 0, 8)) ∧ w.grownBy w' none := by
  have e1 : decide (200 < (p.fns.length : Int)) = false := decide_eq_false (by omega)
  have e2 : decide (600 < (p.sites.length : Int)) = false := decide_eq_false (by omega)
  unfold prgV prgC
  by_cases m1 : p.main < 0
  · have e3 : decide (p.main < 0) = true := decide_eq_true m1
    clear h m1
    go_enter Tryz.func18, Tryz.ntmps18
    go_wp2_with fail
    refine bodyPost_ret (v := .tuple #[.int .i64 0, .int .i64 0, .int .i64 8]) (by simp [results, Tryz.results18, go_sem]) rfl ⟨rfl, by repeat (first | with_reducible exact grownBy_refl _ _ | with_reducible assumption | with_reducible refine World.grownBy.gr_drew ?_ | with_reducible refine World.grownBy.gr_set ?_ (by simp) _ | with_reducible refine gr_alloc ?_ _)⟩
  · have e3 : decide (p.main < 0) = false := decide_eq_false m1
    by_cases m2 : (p.fns.length : Int) ≤ p.main
    · have e4 : decide ((p.fns.length : Int) ≤ p.main) = true := decide_eq_true m2
      clear h m1 m2
      go_enter Tryz.func18, Tryz.ntmps18
      go_wp2_with fail
      refine bodyPost_ret (v := .tuple #[.int .i64 0, .int .i64 0, .int .i64 8]) (by simp [results, Tryz.results18, go_sem]) rfl ⟨rfl, by repeat (first | with_reducible exact grownBy_refl _ _ | with_reducible assumption | with_reducible refine World.grownBy.gr_drew ?_ | with_reducible refine World.grownBy.gr_set ?_ (by simp) _ | with_reducible refine gr_alloc ?_ _)⟩
    · have e4 : decide ((p.fns.length : Int) ≤ p.main) = false := decide_eq_false m2
      have m5 : p.sites.length < p.fns.length := h.elim (fun e => by unfold inB at e; have := of_decide_eq_false e; omega) id
      clear h m1 m2
      go_enter Tryz.func18, Tryz.ntmps18
      go_wp2_with fail
      refine bodyPost_ret (v := .tuple #[.int .i64 0, .int .i64 0, .int .i64 8]) (by simp [results, Tryz.results18, go_sem]) rfl ⟨rfl, by repeat (first | with_reducible exact grownBy_refl _ _ | with_reducible assumption | with_reducible refine World.grownBy.gr_drew ?_ | with_reducible refine World.grownBy.gr_set ?_ (by simp) _ | with_reducible refine gr_alloc ?_ _)⟩
theorem refCheck_any : Calls Tryz.prog 18 #[prgV p] w fun e w' => e = .returned (triV (checkP p)) ∧ w.grownBy w' none := by
  by_cases h : 200 < p.fns.length ∨ 600 < p.sites.length
  · rw [show checkP p = (0, 0, 5) by unfold checkP; rw [if_pos h]]
    exact refCheck_size p w hp h
  · by_cases h2 : inB p.main p.fns.length = true ∧ p.fns.length ≤ p.sites.length
    · exact refCheck_main p w hp (by omega) (by omega) h2.1 h2.2
    · rw [checkP_no (by omega) (by omega) (by
        cases ha : inB p.main p.fns.length
        · rfl
        · unfold eachB
          rw [decide_eq_false (fun e => h2 ⟨ha, e⟩)]
          rfl)]
      refine refCheck_range p w (by omega) (by omega) ?_
      cases ha : inB p.main p.fns.length
      · exact .inl rfl
      · exact .inr (Nat.lt_of_not_le fun e => h2 ⟨ha, e⟩)
end

end Go.Proofs.YtajmkdbokdjmeaaGreat
/- What a program that may be has. -/
namespace Go.Proofs.YtajmkdbokdjmeaaGreat
open Go.RowKit
structure GoodI (f : Fun') (c : Nat) (i : Ins) : Prop where
  reads : ∀ x ∈ readsI i, 0 ≤ x ∧ x < f.regs
  wlo : -1 ≤ wrI i
  whi : wrI i < f.regs
  next : ∀ x ∈ nextI i ((c : Int) + 1), 0 ≤ x ∧ x < (f.code.length : Int)
theorem inB_iff {n m : Int} (h : inB n m = true) : 0 ≤ n ∧ n < m := of_decide_eq_true h
theorem rowL_range {op : Int} (h : rowL op ≠ []) : 1 ≤ op ∧ op ≤ 20 := by
  by_cases h0 : op < 1 ∨ 20 < op
  · exact absurd (rowL_em h0) h
  · omega
theorem insE_zero {p : Prg} {f : Fun'} {c : Nat} {i : Ins} (h : insE p f c i = 0) : rowL i.op ≠ [] ∧ opsB p f i = true ∧ allB f.code.length (nextI i ((c : Int) + 1)) = true := by
  unfold insE at h
  by_cases h1 : rowL i.op = []
  · rw [if_pos h1] at h; cases h
  · rw [if_neg h1] at h
    cases ho : opsB p f i
    · rw [ho] at h; cases h
    · cases hn : allB f.code.length (nextI i ((c : Int) + 1))
      · rw [ho, hn] at h; cases h
      · exact ⟨h1, rfl, rfl⟩
theorem good_of {p : Prg} {f : Fun'} {c : Nat} {i : Ins} (hr : 0 ≤ f.regs) (h : insE p f c i = 0) : GoodI f c i := by
  obtain ⟨h1, h2, h3⟩ := insE_zero h
  obtain ⟨o1, o2⟩ := rowL_range h1
  rw [ops_split p f i o1 o2, Bool.and_eq_true, Bool.and_eq_true] at h2
  have hw : wrI i = -1 ∨ (0 ≤ wrI i ∧ wrI i < f.regs) := by
    unfold wrI
    cases hb : wrB i.op
    · exact .inl rfl
    · refine .inr ?_
      have := h2.2.1
      rw [hb] at this
      exact inB_iff this
  refine ⟨fun x hx => inB_iff (List.all_eq_true.1 h2.1 x hx), by omega, by omega, fun x hx => inB_iff (List.all_eq_true.1 h3 x hx)⟩
theorem bodyF_zero {p : Prg} {f : Fun'} : ∀ (l : List Ins) (k : Nat), (bodyF p f k l).2 = 0 → ∀ j i, l[j]? = some i → insE p f (k + j) i = 0
  | [], _, _, _, _, h => by simp at h
  | i :: r, k, h, j, x, hx => by
    have h' : (if insE p f k i = 0 then bodyF p f (k + 1) r else ((k : Int), insE p f k i)).2 = 0 := h
    by_cases hi : insE p f k i = 0
    · rw [if_pos hi] at h'
      rcases j with _ | j
      · simp at hx; subst hx; exact hi
      · have := bodyF_zero r (k + 1) h' j x (by simpa using hx)
        rw [show k + (j + 1) = k + 1 + j by omega]
        exact this
    · rw [if_neg hi] at h'; exact absurd h' hi
theorem fnsP_zero {p : Prg} : ∀ (l : List Fun') (k : Nat), (fnsP p k l).2.2 = 0 → ∀ j f, l[j]? = some f → (funE p (k + j) f).2 = 0
  | [], _, _, _, _, h => by simp at h
  | f :: r, k, h, j, x, hx => by
    have h' : (if (funE p k f).2 = 0 then fnsP p (k + 1) r else ((k : Int), funE p k f)).2.2 = 0 := h
    by_cases hi : (funE p k f).2 = 0
    · rw [if_pos hi] at h'
      rcases j with _ | j
      · simp at hx; subst hx; exact hi
      · have := fnsP_zero r (k + 1) h' j x (by simpa using hx)
        rw [show k + (j + 1) = k + 1 + j by omega]
        exact this
    · rw [if_neg hi] at h'; exact absurd h' hi
theorem funE_zero {p : Prg} {k : Nat} {f : Fun'} (h : (funE p k f).2 = 0) : headF p k f = 0 ∧ (bodyF p f 0 f.code).2 = 0 := by
  unfold funE at h
  by_cases hh : headF p k f = 0
  · rw [if_pos hh] at h; exact ⟨hh, h⟩
  · rw [if_neg hh] at h; exact absurd h hh
theorem headF_zero {p : Prg} {k : Nat} {f : Fun'} (h : headF p k f = 0) : bigB f = false ∧ f.locals.all (locB p k) = true := by
  unfold headF at h
  cases hb : bigB f
  · refine ⟨rfl, ?_⟩
    rw [hb] at h
    cases hl : f.locals.all (locB p k)
    · rw [if_neg (by decide), locE_no hl] at h; cases h
    · rfl
  · rw [hb] at h; cases h
/-- A program that may be. -/
structure GoodP (p : Prg) : Prop where
  nf : p.fns.length ≤ 200
  ns : p.sites.length ≤ 600
  main : inB p.main p.fns.length = true
  each : eachB p = true
  fns : ∀ j f, p.fns[j]? = some f → bigB f = false ∧ f.locals.all (locB p j) = true ∧ ∀ c i, f.code[c]? = some i → insE p f c i = 0
theorem goodP_of {p : Prg} (h : (checkP p).2.2 = 0) : GoodP p := by
  unfold checkP at h
  by_cases h1 : 200 < p.fns.length ∨ 600 < p.sites.length
  · rw [if_pos h1] at h; cases h
  · rw [if_neg h1] at h
    by_cases h2 : (inB p.main p.fns.length && eachB p) = true
    · rw [if_pos h2] at h
      rw [Bool.and_eq_true] at h2
      refine ⟨by omega, by omega, h2.1, h2.2, fun j f hj => ?_⟩
      have h3 := fnsP_zero p.fns 0 h j f hj
      rw [Nat.zero_add] at h3
      obtain ⟨h4, h5⟩ := funE_zero h3
      obtain ⟨h6, h7⟩ := headF_zero h4
      refine ⟨h6, h7, fun c i hc => ?_⟩
      have := bodyF_zero f.code 0 h5 c i hc
      rwa [Nat.zero_add] at this
    · rw [if_neg h2] at h; cases h
theorem small_of {f : Fun'} (h : bigB f = false) : 0 < f.code.length ∧ f.code.length ≤ 4000 ∧ f.regs ≤ 4000 ∧ f.params ≤ f.regs ∧ 0 ≤ f.params := by
  have := of_decide_eq_false h
  omega
theorem bodyF_all {p : Prg} {f : Fun'} : ∀ (l : List Ins) (k : Nat), (∀ j i, l[j]? = some i → insE p f (k + j) i = 0) → bodyF p f k l = (0, 0)
  | [], _, _ => rfl
  | i :: r, k, h => by
    show (if insE p f k i = 0 then bodyF p f (k + 1) r else ((k : Int), insE p f k i)) = (0, 0)
    rw [if_pos (show insE p f k i = 0 from h 0 i rfl)]
    exact bodyF_all r (k + 1) fun j x hx => by rw [show k + 1 + j = k + (j + 1) by omega]; exact h (j + 1) x hx
theorem fnsP_all {p : Prg} : ∀ (l : List Fun') (k : Nat), (∀ j f, l[j]? = some f → funE p (k + j) f = (0, 0)) → fnsP p k l = (0, 0, 0)
  | [], _, _ => rfl
  | f :: r, k, h => by
    show (if (funE p k f).2 = 0 then fnsP p (k + 1) r else ((k : Int), funE p k f)) = (0, 0, 0)
    rw [if_pos (by rw [show funE p k f = (0, 0) from h 0 f rfl])]
    exact fnsP_all r (k + 1) fun j x hx => by rw [show k + 1 + j = k + (j + 1) by omega]; exact h (j + 1) x hx
/-- .. and back. -/
theorem GoodP.check {p : Prg} (h : GoodP p) : checkP p = (0, 0, 0) := by
  unfold checkP
  have := h.nf
  have := h.ns
  rw [if_neg (by omega), if_pos (by rw [h.main, h.each]; rfl)]
  refine fnsP_all _ _ fun j f hj => ?_
  obtain ⟨h1, h2, h3⟩ := h.fns j f hj
  rw [Nat.zero_add]
  have e : headF p j f = 0 := by unfold headF; rw [h1]; exact locE_yes h2
  unfold funE
  rw [if_pos e]
  exact bodyF_all _ _ fun c i hc => by rw [Nat.zero_add]; exact h3 c i hc

end Go.Proofs.YtajmkdbokdjmeaaGreat
