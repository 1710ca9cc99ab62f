/- MemPlays: the loop's body, what holds at its head. -/
import Derived.Test.YtblhnjoophhliaaM46
import Derived.Test.YtblhnjoophhliaaM16
namespace Go.Proofs.Ytblhnjoophhliaa
open Go.RowKit
theorem Same_self (ad bd : Option Addr) (ca cb : Nat) (l : List Byt) (w : World) (hm : l.length ≤ 1000000) (ha : RdAt w ad l) (hb : RdAt w bd l) :
    Calls Try.prog 30 #[.slice ad l.length ca, .slice bd l.length cb] w fun e w' => e = .returned (.bool true) ∧ w.grownBy w' none :=
  (Same_any ad bd ca cb l l w hm ha hb).mono fun e w' hh => ⟨hh.1.trans (by rw [decide_eq_true (rfl : l = l)]), hh.2⟩
theorem PlE.first (w W : World) (g : w.grownBy W none) : PlE w (W.alloc (.cells #[.slice none 0 0] 73)) W.heap.size (.slice none 0 0) [] [] :=
  ⟨[], fun _ => False, [], none, 0, St.new w W g, rfl, RefAt.nil _, fun k h => h.elim, rfl, rfl, fun x h => by cases h⟩
theorem PB.first {w W : World} {m : Nat} {r : Value} {bm br : List Blk} {d : Ded} {bd : Nat} (h : PlE w W m r bm br) (hd : W.heap[bd]? = some (.cells (dedC d) 31 (0, 0))) :
    PB w ((W.alloc (.cells #[.int .i64 0, .int .i64 0, .int .i64 0] 29)).alloc (.cells #[.int .i64 0, .int .i64 0, .int .i64 0] 29)) m r bm br bd W.heap.size (W.heap.size + 1) d val0 val0 := by
  have g : W.grownBy ((W.alloc (.cells #[.int .i64 0, .int .i64 0, .int .i64 0] 29)).alloc (.cells #[.int .i64 0, .int .i64 0, .int .i64 0] 29)) none := gr_alloc (gr_alloc (grownBy_refl _ _) _) _
  have p := P2.new W 0 0 0 0 0 0
  exact ⟨h.grown g, (g.block _ (lt_of_heap hd) (by simp)).trans hd, p.b0, p.b1, grownBy_trans h.gr g, by omega, h.gr.size, Nat.le_succ_of_le h.gr.size⟩
def firstLoop : Code → Option Code
  | .loop c => some c
  | .seq a b => match firstLoop a with
    | some c => some c
    | none => firstLoop b
  | .block _ c => firstLoop c
  | .scope c => firstLoop c
  | .cond _ a b => match firstLoop a with
    | some c => some c
    | none => firstLoop b
  | _ => none
noncomputable def plays_body : Code := (Try.f3.body.bind firstLoop).getD .skip
set_option maxRecDepth 1000000 in
/-- What holds at the loop's head. -/
def plays_WI (oa : Option Addr) (cap : Nat) (l : List Ded) (w : World) (m : Nat) (a : Act) (W : World) : Prop := ∃ u2 u5 u6 u7 u8 u9 u10 u11 u12 u13 u14 u15 u23 u24 u25 u26 u27 u28 u29 u30 u31 u32 u33 u34 u35 u36 u37 u38 u39 u40 u41 u42 u43 u44 u45 u46 u47 u48 u49 u50 u51 u52 u53 u54 u55 u56 u57 u58 u59 u60 u61 u62 u63 u64 u65 u66 u67 u68 u69 u70 u71 u72 u73 u74 u75 u76 u77 u78 u79 u80 u81 u82 u83 u84 u85 u86 u87 u88 u89 u90 u91 u92 u93 u94 u95 u96 u97 u98 u99 u100 u101 u102 u103 u104 u105 u106 u107 u108 u109 u110 u111 u112 u113 u114 u115 u116 u117 u118 u119 u120 u121 u122 u123 u124 u125 u126 u127 u128 u129 u130 u131 u132 u133 u134 u135 u136 u137 u138 u139 u140 u141 u142 u143 u144 u145 u146 u147 u148 u149 u150 u151 u152 u153 u154 u155 u156 u157 u158 u159 u160 u161 u162 u163 u164 u165 u166 u167 u168 u169 u170 u171 u172 u173 u174 u175 u176 u177 u178 u179 u180 u181 u182 u183 u184 u185 u186 u187 u188 u189 u190 u191 u192 u193 u194 u195 u196 u197 u198 u199 u200 u201 u202 u203 u204 u205 u206 u207 u208 : Value, (∃ (j : Nat) (bs : List Blk), j ≤ l.length ∧ j ≤ 60 ∧ u6 = .int .i64 j ∧ PlE w W m u5 bs bs) ∧ a = ⟨#[.slice oa l.length cap, undef, u2, .bool true, .pointer (some ⟨m, 0, none⟩), u5, u6, u7, u8, u9, u10, u11, u12, u13, u14, u15, undef, undef, undef, undef, undef, .bool true, .pointer (some ⟨m, 0, none⟩), u23, u24, u25, u26, u27, u28, u29, u30, u31, u32, u33, u34, u35, u36, u37, u38, u39, u40, u41, u42, u43, u44, u45, u46, u47, u48, u49, u50, u51, u52, u53, u54, u55, u56, u57, u58, u59, u60, u61, u62, u63, u64, u65, u66, u67, u68, u69, u70, u71, u72, u73, u74, u75, u76, u77, u78, u79, u80, u81, u82, u83, u84, u85, u86, u87, u88, u89, u90, u91, u92, u93, u94, u95, u96, u97, u98, u99, u100, u101, u102, u103, u104, u105, u106, u107, u108, u109, u110, u111, u112, u113, u114, u115, u116, u117, u118, u119, u120, u121, u122, u123, u124, u125, u126, u127, u128, u129, u130, u131, u132, u133, u134, u135, u136, u137, u138, u139, u140, u141, u142, u143, u144, u145, u146, u147, u148, u149, u150, u151, u152, u153, u154, u155, u156, u157, u158, u159, u160, u161, u162, u163, u164, u165, u166, u167, u168, u169, u170, u171, u172, u173, u174, u175, u176, u177, u178, u179, u180, u181, u182, u183, u184, u185, u186, u187, u188, u189, u190, u191, u192, u193, u194, u195, u196, u197, u198, u199, u200, u201, u202, u203, u204, u205, u206, u207, u208, undef, undef, undef, undef, undef, undef, undef, undef, undef, undef, undef, undef, undef, undef, undef, undef, undef, undef, undef, undef, undef, undef, undef, undef, undef, undef, undef, undef, undef, undef, undef, undef, undef, undef, undef, undef, undef, undef, undef, undef, undef, undef, undef, undef, undef, undef, undef, undef, undef, undef, undef, undef, undef, undef, undef, undef, undef, undef, undef, undef, undef, undef, undef, undef, undef, undef, undef, undef, undef, undef, undef, undef, undef, undef, undef, undef], []⟩
def plays_mu (a : Act) (_ : World) : Nat := 60 - (intOf (a.tmps.getD 6 undef)).toNat

end Go.Proofs.Ytblhnjoophhliaa
