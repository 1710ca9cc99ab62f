/- The document's Check: the locals' test, a region that draws its order. -/
import Derived.Test.YtdknclhbnhiojaaDoorI23
import Derived.Deep.RegionHeld3
namespace Go.Proofs.YtdknclhbnhiojaaDoor
open Go.RowKit
def opsAt : List Bool → Code → Array Oper
  | [], .region _ ops _ => ops
  | false :: l, .seq a _ => opsAt l a
  | true :: l, .seq _ b => opsAt l b
  | false :: l, .cond _ a _ => opsAt l a
  | true :: l, .cond _ _ b => opsAt l b
  | _ :: l, .block _ b => opsAt l b
  | _ :: l, .loop b => opsAt l b
  | _ :: l, .scope b => opsAt l b
  | _, _ => #[]
noncomputable def ops19 : Array Oper := opsAt [true, true, true, true, false, true, false, false, true, false, false, true, true, false, true, false, false, true, false, false, false] (Tryd.f17.body.getD .skip)
set_option maxRecDepth 100000 in
set_option maxHeartbeats 16000000 in
theorem reg19_one {ops : Array Oper} (ho : ops = ops19) {Q : Exit → Act → World → Prop} {x0 x2 x3 x4 x5 x9 x10 x11 x12 x13 x14 x15 x16 x17 x18 x19 x20 x21 x22 x23 x24 x25 x26 x27 x28 x29 x30 x31 x32 x33 x34 x35 x36 x37 x38 x39 x40 x41 x42 x43 x44 x45 x46 x47 x48 x49 x50 x51 x52 x53 x54 x55 x56 x57 x58 x59 x60 x61 x62 x63 x64 x65 x66 x67 x68 x69 x70 x71 x72 x73 x74 x75 x76 x77 x78 x79 x80 x81 x82 x83 x84 x85 x86 x87 x88 x89 x90 x91 x92 x93 x94 x95 x96 x97 x98 x99 x100 x101 x102 x103 x104 x105 x106 x107 x108 x109 x110 x111 x112 x113 x114 x115 x116 x117 x118 x119 x120 x121 x122 x123 x124 x125 x126 x127 x128 x129 x130 x131 x132 x133 x134 x135 x136 x137 x138 x139 x140 x141 x142 x143 x144 x145 x146 : Value} {b bf k j : Nat} {fa : Option Addr} {sl sc fl fc ll lc : Nat} {mn : Int} (sa : Option Addr) (ld : Addr) (x kd : Int) {R : World → Prop} {w : World} (hw : R w.drew)
    (hj0 : (0 : Int) ≤ (j : Int)) (hj : (j : Int) < (ll : Int)) (hkd : (kd != 2) = true)
    (HS : ∀ W, R W → W.cell? ⟨b, 0, none⟩ = some (.slice sa sl sc) ∧ W.cell? ⟨b, 1, none⟩ = some (.slice fa fl fc) ∧ W.cell? ⟨b, 2, none⟩ = some (.int .i64 mn) ∧ W.cell? ⟨bf, 3, none⟩ = some (.slice (some ld) ll lc) ∧ W.cell? (ld.add j) = some (.int .i64 x))
    (HK : ∀ W, R W → Calls Tryd.prog 26 #[.agg #[.slice sa sl sc, .slice fa fl fc, .int .i64 mn], .int .i64 x] W fun e w' => e = .returned (.int .i64 kd) ∧ R w')
    (hQ : ∀ W u108 u109 u110 u111 u112 u113 u114 u115 u116 u117 u118 u119 u120 u121 u122 u123 u124 u125 u126 u127 u128, R W → Q .normal ⟨#[x0, .pointer (some ⟨b, 0, none⟩), x2, x3, x4, x5, .int .i64 (k : Int), .pointer (some ⟨bf, 0, none⟩), .int .i64 (j : Int), x9, x10, x11, x12, x13, x14, x15, x16, x17, x18, x19, x20, x21, x22, x23, x24, x25, x26, x27, x28, x29, x30, x31, x32, x33, x34, x35, x36, x37, x38, x39, x40, x41, x42, x43, x44, x45, x46, x47, x48, x49, x50, x51, x52, x53, x54, x55, x56, x57, x58, x59, x60, x61, x62, x63, x64, x65, x66, x67, x68, x69, x70, x71, x72, x73, x74, x75, x76, x77, x78, x79, x80, x81, x82, x83, x84, x85, x86, x87, x88, x89, x90, x91, x92, x93, x94, x95, x96, x97, x98, x99, x100, x101, x102, x103, x104, x105, x106, x107, u108, u109, u110, u111, u112, u113, u114, u115, u116, u117, u118, u119, u120, u121, u122, u123, u124, u125, u126, u127, u128, .bool true, x130, x131, x132, x133, x134, x135, x136, x137, x138, x139, x140, x141, x142, x143, x144, x145, x146], []⟩ W) :
    (Code.region 19 ops true).wp Tryd.prog (NoPanic Q) ⟨#[x0, .pointer (some ⟨b, 0, none⟩), x2, x3, x4, x5, .int .i64 (k : Int), .pointer (some ⟨bf, 0, none⟩), .int .i64 (j : Int), x9, x10, x11, x12, x13, x14, x15, x16, x17, x18, x19, x20, x21, x22, x23, x24, x25, x26, x27, x28, x29, x30, x31, x32, x33, x34, x35, x36, x37, x38, x39, x40, x41, x42, x43, x44, x45, x46, x47, x48, x49, x50, x51, x52, x53, x54, x55, x56, x57, x58, x59, x60, x61, x62, x63, x64, x65, x66, x67, x68, x69, x70, x71, x72, x73, x74, x75, x76, x77, x78, x79, x80, x81, x82, x83, x84, x85, x86, x87, x88, x89, x90, x91, x92, x93, x94, x95, x96, x97, x98, x99, x100, x101, x102, x103, x104, x105, x106, x107, x108, x109, x110, x111, x112, x113, x114, x115, x116, x117, x118, x119, x120, x121, x122, x123, x124, x125, x126, x127, x128, x129, x130, x131, x132, x133, x134, x135, x136, x137, x138, x139, x140, x141, x142, x143, x144, x145, x146], []⟩ w := by
  subst ho
  have HS' := Lib.hid HS
  have HK' := Lib.hid HK
  have HQ' := Lib.hid hQ
  have hS0 := HS _ hw
  clear HS HK hQ
  dsimp only [ops19, opsAt, Tryd.f17, Option.getD]
  refine wp_region_held_drew (S := fun W => W.cell? ⟨b, 0, none⟩ = some (.slice sa sl sc) ∧ W.cell? ⟨b, 1, none⟩ = some (.slice fa fl fc) ∧ W.cell? ⟨b, 2, none⟩ = some (.int .i64 mn) ∧ W.cell? ⟨bf, 3, none⟩ = some (.slice (some ld) ll lc) ∧ W.cell? (ld.add j) = some (.int .i64 x) ∧ R W) (by kernel_rfl) (by exact ⟨(HS'.out _ (by assumption)).1, (HS'.out _ (by assumption)).2.1, (HS'.out _ (by assumption)).2.2.1, (HS'.out _ (by assumption)).2.2.2.1, (HS'.out _ (by assumption)).2.2.2.2, (by assumption)⟩) (fun hHeld => ?_)
  refine wpAnyH_take (i := 0) (v := ?_) rfl (by kernel_rfl) (by kernel_rfl) (by kernel_rfl) (fun _ _ _ h => h) (Or.inl ⟨by rfl, ?_⟩) (by assumption) ?_
  rotate_left 1
  · (intro w8 hSw; (try dsimp only at hSw); go_simp; try with_reducible rfl)
  try simp only [Act.put, List.getElem_toArray, List.getElem_cons_zero, List.getElem_cons_succ, List.setIfInBounds_toArray, List.set_cons_zero, List.set_cons_succ]
  refine wpAnyH_take (i := 1) (v := ?_) rfl (by kernel_rfl) (by kernel_rfl) (by kernel_rfl) (fun _ _ _ h => h) (Or.inl ⟨by rfl, ?_⟩) (by assumption) ?_
  rotate_left 1
  · (intro w8 hSw; (try dsimp only at hSw); go_simp; try with_reducible rfl)
  try simp only [Act.put, List.getElem_toArray, List.getElem_cons_zero, List.getElem_cons_succ, List.setIfInBounds_toArray, List.set_cons_zero, List.set_cons_succ]
  refine wpAnyH_take (i := 2) (v := ?_) rfl (by kernel_rfl) (by kernel_rfl) (by kernel_rfl) (fun _ _ _ h => h) (Or.inl ⟨by rfl, ?_⟩) (by assumption) ?_
  rotate_left 1
  · (intro w8 hSw; (try dsimp only at hSw); go_simp; try with_reducible rfl)
  try simp only [Act.put, List.getElem_toArray, List.getElem_cons_zero, List.getElem_cons_succ, List.setIfInBounds_toArray, List.set_cons_zero, List.set_cons_succ]
  refine wpAnyH_take (i := 3) (v := ?_) rfl (by kernel_rfl) (by kernel_rfl) (by kernel_rfl) (fun _ _ _ h => h) (Or.inl ⟨by rfl, ?_⟩) (by assumption) ?_
  rotate_left 1
  · (intro w8 hSw; (try dsimp only at hSw); go_simp; try with_reducible rfl)
  try simp only [Act.put, List.getElem_toArray, List.getElem_cons_zero, List.getElem_cons_succ, List.setIfInBounds_toArray, List.set_cons_zero, List.set_cons_succ]
  refine wpAnyH_take (i := 4) (v := ?_) rfl (by kernel_rfl) (by kernel_rfl) (by kernel_rfl) (fun _ _ _ h => h) (Or.inl ⟨by rfl, ?_⟩) (by assumption) ?_
  rotate_left 1
  · (intro w8 hSw; (try dsimp only at hSw); go_simp; try with_reducible rfl)
  try simp only [Act.put, List.getElem_toArray, List.getElem_cons_zero, List.getElem_cons_succ, List.setIfInBounds_toArray, List.set_cons_zero, List.set_cons_succ]
  refine wpAnyH_take (i := 5) (v := ?_) rfl (by kernel_rfl) (by kernel_rfl) (by kernel_rfl) (fun _ _ _ h => h) (Or.inl ⟨by rfl, ?_⟩) (by assumption) ?_
  rotate_left 1
  · (intro w8 hSw; (try dsimp only at hSw); go_simp; try with_reducible rfl)
  try simp only [Act.put, List.getElem_toArray, List.getElem_cons_zero, List.getElem_cons_succ, List.setIfInBounds_toArray, List.set_cons_zero, List.set_cons_succ]
  refine wpAnyH_ready (rs := [6]) (by kernel_rfl) (by simp) ?_
  refine AllReadyH.cons rfl (fun K hK => ?_) AllReadyH.nil
  go_simp
  go_at_call 26
  refine (HK'.out _ (by assumption)).mono ?_
  rintro e w' ⟨rfl, hR'⟩
  go_wp2_with fail
  refine hK.out _ _ (by exact ⟨(HS'.out _ hR').1, (HS'.out _ hR').2.1, (HS'.out _ hR').2.2.1, (HS'.out _ hR').2.2.2.1, (HS'.out _ hR').2.2.2.2, hR'⟩) (fun hHeld8 => ?_)
  clear hK K
  try simp only [Act.put, List.getElem_toArray, List.getElem_cons_zero, List.getElem_cons_succ, List.setIfInBounds_toArray, List.set_cons_zero, List.set_cons_succ]
  refine wpAnyH_take (i := 7) (v := ?_) rfl (by kernel_rfl) (by kernel_rfl) (by kernel_rfl) (fun _ _ _ h => h) (Or.inl ⟨by rfl, ?_⟩) (by assumption) ?_
  rotate_left 1
  · (intro w8 hSw; (try dsimp only at hSw); go_simp; try with_reducible rfl)
  try simp only [Act.put, List.getElem_toArray, List.getElem_cons_zero, List.getElem_cons_succ, List.setIfInBounds_toArray, List.set_cons_zero, List.set_cons_succ]
  refine wpAnyH_take (i := 8) (v := ?_) rfl (by kernel_rfl) (by kernel_rfl) (by kernel_rfl) (fun _ _ _ h => h) (Or.inl ⟨by rfl, ?_⟩) (by assumption) ?_
  rotate_left 1
  · (intro w8 hSw; (try dsimp only at hSw); go_simp; try with_reducible rfl)
  try simp only [Act.put, List.getElem_toArray, List.getElem_cons_zero, List.getElem_cons_succ, List.setIfInBounds_toArray, List.set_cons_zero, List.set_cons_succ]
  refine wpAnyH_take (i := 9) (v := undef) rfl ?_ ?_ ?_ ?_ ?_ ?_ ?_
  · kernel_rfl
  · kernel_rfl
  · kernel_rfl
  · exact fun _ _ _ h => h
  · refine Or.inr ⟨?_, ?_⟩
    · kernel_rfl
    · rfl
  · assumption
  try simp only [Act.put, List.getElem_toArray, List.getElem_cons_zero, List.getElem_cons_succ, List.setIfInBounds_toArray, List.set_cons_zero, List.set_cons_succ]
  refine wpAnyH_take (i := 10) (v := undef) rfl ?_ ?_ ?_ ?_ ?_ ?_ ?_
  · kernel_rfl
  · kernel_rfl
  · kernel_rfl
  · exact fun _ _ _ h => h
  · refine Or.inr ⟨?_, ?_⟩
    · kernel_rfl
    · rfl
  · assumption
  try simp only [Act.put, List.getElem_toArray, List.getElem_cons_zero, List.getElem_cons_succ, List.setIfInBounds_toArray, List.set_cons_zero, List.set_cons_succ]
  refine wpAnyH_take (i := 11) (v := undef) rfl ?_ ?_ ?_ ?_ ?_ ?_ ?_
  · kernel_rfl
  · kernel_rfl
  · kernel_rfl
  · exact fun _ _ _ h => h
  · refine Or.inr ⟨?_, ?_⟩
    · kernel_rfl
    · rfl
  · assumption
  try simp only [Act.put, List.getElem_toArray, List.getElem_cons_zero, List.getElem_cons_succ, List.setIfInBounds_toArray, List.set_cons_zero, List.set_cons_succ]
  refine wpAnyH_take (i := 12) (v := undef) rfl ?_ ?_ ?_ ?_ ?_ ?_ ?_
  · kernel_rfl
  · kernel_rfl
  · kernel_rfl
  · exact fun _ _ _ h => h
  · refine Or.inr ⟨?_, ?_⟩
    · kernel_rfl
    · rfl
  · assumption
  try simp only [Act.put, List.getElem_toArray, List.getElem_cons_zero, List.getElem_cons_succ, List.setIfInBounds_toArray, List.set_cons_zero, List.set_cons_succ]
  refine wpAnyH_take (i := 13) (v := undef) rfl ?_ ?_ ?_ ?_ ?_ ?_ ?_
  · kernel_rfl
  · kernel_rfl
  · kernel_rfl
  · exact fun _ _ _ h => h
  · refine Or.inr ⟨?_, ?_⟩
    · kernel_rfl
    · rfl
  · assumption
  try simp only [Act.put, List.getElem_toArray, List.getElem_cons_zero, List.getElem_cons_succ, List.setIfInBounds_toArray, List.set_cons_zero, List.set_cons_succ]
  refine wpAnyH_take (i := 14) (v := undef) rfl ?_ ?_ ?_ ?_ ?_ ?_ ?_
  · kernel_rfl
  · kernel_rfl
  · kernel_rfl
  · exact fun _ _ _ h => h
  · refine Or.inr ⟨?_, ?_⟩
    · kernel_rfl
    · rfl
  · assumption
  try simp only [Act.put, List.getElem_toArray, List.getElem_cons_zero, List.getElem_cons_succ, List.setIfInBounds_toArray, List.set_cons_zero, List.set_cons_succ]
  refine wpAnyH_take (i := 15) (v := undef) rfl ?_ ?_ ?_ ?_ ?_ ?_ ?_
  · kernel_rfl
  · kernel_rfl
  · kernel_rfl
  · exact fun _ _ _ h => h
  · refine Or.inr ⟨?_, ?_⟩
    · kernel_rfl
    · rfl
  · assumption
  try simp only [Act.put, List.getElem_toArray, List.getElem_cons_zero, List.getElem_cons_succ, List.setIfInBounds_toArray, List.set_cons_zero, List.set_cons_succ]
  refine wpAnyH_take (i := 16) (v := undef) rfl ?_ ?_ ?_ ?_ ?_ ?_ ?_
  · kernel_rfl
  · kernel_rfl
  · kernel_rfl
  · exact fun _ _ _ h => h
  · refine Or.inr ⟨?_, ?_⟩
    · kernel_rfl
    · rfl
  · assumption
  try simp only [Act.put, List.getElem_toArray, List.getElem_cons_zero, List.getElem_cons_succ, List.setIfInBounds_toArray, List.set_cons_zero, List.set_cons_succ]
  refine wpAnyH_take (i := 17) (v := undef) rfl ?_ ?_ ?_ ?_ ?_ ?_ ?_
  · kernel_rfl
  · kernel_rfl
  · kernel_rfl
  · exact fun _ _ _ h => h
  · refine Or.inr ⟨?_, ?_⟩
    · kernel_rfl
    · rfl
  · assumption
  try simp only [Act.put, List.getElem_toArray, List.getElem_cons_zero, List.getElem_cons_succ, List.setIfInBounds_toArray, List.set_cons_zero, List.set_cons_succ]
  refine wpAnyH_take (i := 18) (v := undef) rfl ?_ ?_ ?_ ?_ ?_ ?_ ?_
  · kernel_rfl
  · kernel_rfl
  · kernel_rfl
  · exact fun _ _ _ h => h
  · refine Or.inr ⟨?_, ?_⟩
    · kernel_rfl
    · rfl
  · assumption
  try simp only [Act.put, List.getElem_toArray, List.getElem_cons_zero, List.getElem_cons_succ, List.setIfInBounds_toArray, List.set_cons_zero, List.set_cons_succ]
  refine wpAnyH_take (i := 19) (v := undef) rfl ?_ ?_ ?_ ?_ ?_ ?_ ?_
  · kernel_rfl
  · kernel_rfl
  · kernel_rfl
  · exact fun _ _ _ h => h
  · refine Or.inr ⟨?_, ?_⟩
    · kernel_rfl
    · rfl
  · assumption
  try simp only [Act.put, List.getElem_toArray, List.getElem_cons_zero, List.getElem_cons_succ, List.setIfInBounds_toArray, List.set_cons_zero, List.set_cons_succ]
  refine wpAnyH_take (i := 20) (v := undef) rfl ?_ ?_ ?_ ?_ ?_ ?_ ?_
  · kernel_rfl
  · kernel_rfl
  · kernel_rfl
  · exact fun _ _ _ h => h
  · refine Or.inr ⟨?_, ?_⟩
    · kernel_rfl
    · rfl
  · assumption
  try simp only [Act.put, List.getElem_toArray, List.getElem_cons_zero, List.getElem_cons_succ, List.setIfInBounds_toArray, List.set_cons_zero, List.set_cons_succ]
  refine wpAnyH_take (i := 21) (v := ?_) rfl (by kernel_rfl) (by kernel_rfl) (by kernel_rfl) (fun _ _ _ h => h) (Or.inl ⟨by rfl, ?_⟩) (by assumption) ?_
  rotate_left 1
  · (intro w8 hSw; (try dsimp only at hSw); go_simp; try with_reducible rfl)
  try simp only [Act.put, List.getElem_toArray, List.getElem_cons_zero, List.getElem_cons_succ, List.setIfInBounds_toArray, List.set_cons_zero, List.set_cons_succ]
  refine wpAnyH_done (by kernel_rfl) ?_ _
  exact HQ'.out _ _ _ _ _ _ _ _ _ _ _ _ _ _ _ _ _ _ _ _ _ _ (by assumption)
set_option maxRecDepth 100000 in
set_option maxHeartbeats 16000000 in
theorem reg19_two {ops : Array Oper} (ho : ops = ops19) {Q : Exit → Act → World → Prop} {x0 x2 x3 x4 x5 x9 x10 x11 x12 x13 x14 x15 x16 x17 x18 x19 x20 x21 x22 x23 x24 x25 x26 x27 x28 x29 x30 x31 x32 x33 x34 x35 x36 x37 x38 x39 x40 x41 x42 x43 x44 x45 x46 x47 x48 x49 x50 x51 x52 x53 x54 x55 x56 x57 x58 x59 x60 x61 x62 x63 x64 x65 x66 x67 x68 x69 x70 x71 x72 x73 x74 x75 x76 x77 x78 x79 x80 x81 x82 x83 x84 x85 x86 x87 x88 x89 x90 x91 x92 x93 x94 x95 x96 x97 x98 x99 x100 x101 x102 x103 x104 x105 x106 x107 x108 x109 x110 x111 x112 x113 x114 x115 x116 x117 x118 x119 x120 x121 x122 x123 x124 x125 x126 x127 x128 x129 x130 x131 x132 x133 x134 x135 x136 x137 x138 x139 x140 x141 x142 x143 x144 x145 x146 : Value} {b bf k j : Nat} {fa : Option Addr} {sl sc fl fc ll lc : Nat} {mn : Int} (sd ld : Addr) (m : Nat) (fn : Int) (bb : Bool) {R : World → Prop} {w : World} (hw : R w.drew)
    (hj0 : (0 : Int) ≤ (j : Int)) (hj : (j : Int) < (ll : Int)) (hm0 : (0 : Int) ≤ (m : Int)) (hm : (m : Int) < (sl : Int)) (he : (fn != (k : Int)) = bb)
    (HS : ∀ W, R W → W.cell? ⟨b, 0, none⟩ = some (.slice (some sd) sl sc) ∧ W.cell? ⟨b, 1, none⟩ = some (.slice fa fl fc) ∧ W.cell? ⟨b, 2, none⟩ = some (.int .i64 mn) ∧ W.cell? ⟨bf, 3, none⟩ = some (.slice (some ld) ll lc) ∧ W.cell? (ld.add j) = some (.int .i64 (m : Int)) ∧ W.cell? ⟨(sd.add (m * 8)).block, (sd.add (m * 8)).off + 2, none⟩ = some (.int .i64 fn))
    (HK : ∀ W, R W → Calls Tryd.prog 26 #[.agg #[.slice (some sd) sl sc, .slice fa fl fc, .int .i64 mn], .int .i64 (m : Int)] W fun e w' => e = .returned (.int .i64 2) ∧ R w')
    (hQ : ∀ W u108 u109 u110 u111 u112 u113 u114 u115 u116 u117 u118 u119 u120 u121 u122 u123 u124 u125 u126 u127 u128, R W → Q .normal ⟨#[x0, .pointer (some ⟨b, 0, none⟩), x2, x3, x4, x5, .int .i64 (k : Int), .pointer (some ⟨bf, 0, none⟩), .int .i64 (j : Int), x9, x10, x11, x12, x13, x14, x15, x16, x17, x18, x19, x20, x21, x22, x23, x24, x25, x26, x27, x28, x29, x30, x31, x32, x33, x34, x35, x36, x37, x38, x39, x40, x41, x42, x43, x44, x45, x46, x47, x48, x49, x50, x51, x52, x53, x54, x55, x56, x57, x58, x59, x60, x61, x62, x63, x64, x65, x66, x67, x68, x69, x70, x71, x72, x73, x74, x75, x76, x77, x78, x79, x80, x81, x82, x83, x84, x85, x86, x87, x88, x89, x90, x91, x92, x93, x94, x95, x96, x97, x98, x99, x100, x101, x102, x103, x104, x105, x106, x107, u108, u109, u110, u111, u112, u113, u114, u115, u116, u117, u118, u119, u120, u121, u122, u123, u124, u125, u126, u127, u128, .bool bb, x130, x131, x132, x133, x134, x135, x136, x137, x138, x139, x140, x141, x142, x143, x144, x145, x146], []⟩ W) :
    (Code.region 19 ops true).wp Tryd.prog (NoPanic Q) ⟨#[x0, .pointer (some ⟨b, 0, none⟩), x2, x3, x4, x5, .int .i64 (k : Int), .pointer (some ⟨bf, 0, none⟩), .int .i64 (j : Int), x9, x10, x11, x12, x13, x14, x15, x16, x17, x18, x19, x20, x21, x22, x23, x24, x25, x26, x27, x28, x29, x30, x31, x32, x33, x34, x35, x36, x37, x38, x39, x40, x41, x42, x43, x44, x45, x46, x47, x48, x49, x50, x51, x52, x53, x54, x55, x56, x57, x58, x59, x60, x61, x62, x63, x64, x65, x66, x67, x68, x69, x70, x71, x72, x73, x74, x75, x76, x77, x78, x79, x80, x81, x82, x83, x84, x85, x86, x87, x88, x89, x90, x91, x92, x93, x94, x95, x96, x97, x98, x99, x100, x101, x102, x103, x104, x105, x106, x107, x108, x109, x110, x111, x112, x113, x114, x115, x116, x117, x118, x119, x120, x121, x122, x123, x124, x125, x126, x127, x128, x129, x130, x131, x132, x133, x134, x135, x136, x137, x138, x139, x140, x141, x142, x143, x144, x145, x146], []⟩ w := by
  subst ho
  have HS' := Lib.hid HS
  have HK' := Lib.hid HK
  have HQ' := Lib.hid hQ
  have hS0 := HS _ hw
  clear HS HK hQ
  dsimp only [ops19, opsAt, Tryd.f17, Option.getD]
  go_region_held3 (fun W => W.cell? ⟨b, 0, none⟩ = some (.slice (some sd) sl sc) ∧ W.cell? ⟨b, 1, none⟩ = some (.slice fa fl fc) ∧ W.cell? ⟨b, 2, none⟩ = some (.int .i64 mn) ∧ W.cell? ⟨bf, 3, none⟩ = some (.slice (some ld) ll lc) ∧ W.cell? (ld.add j) = some (.int .i64 (m : Int)) ∧ W.cell? ⟨(sd.add (m * 8)).block, (sd.add (m * 8)).off + 2, none⟩ = some (.int .i64 fn) ∧ R W) (exact ⟨(HS'.out _ (by assumption)).1, (HS'.out _ (by assumption)).2.1, (HS'.out _ (by assumption)).2.2.1, (HS'.out _ (by assumption)).2.2.2.1, (HS'.out _ (by assumption)).2.2.2.2.1, (HS'.out _ (by assumption)).2.2.2.2.2, (by assumption)⟩)
    (first | (go_at_call 26; refine (HK'.out _ (by assumption)).mono ?_; rintro e w' ⟨rfl, hR'⟩))
  exact HQ'.out _ _ _ _ _ _ _ _ _ _ _ _ _ _ _ _ _ _ _ _ _ _ (by assumption)

end Go.Proofs.YtdknclhbnhiojaaDoor
