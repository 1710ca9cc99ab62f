/- MemPlays: a deed that is passed by. -/
import Derived.Test.YtblhnjoophhliaaM47
namespace Go.Proofs.Ytblhnjoophhliaa
open Go.RowKit
set_option maxRecDepth 1000000 in
set_option maxHeartbeats 100000000 in
theorem plays_nw1 {oa : Option Addr} {cap : Nat} {l : List Ded} {w wr : World} {m : Nat} {bs : List Blk} {j : Nat} {r u2 u7 u8 u9 u10 u11 u12 u13 u14 u15 u23 u24 u25 u26 u27 u28 u29 u30 u31 u32 u33 u34 u35 u36 u37 u38 u39 u40 u41 u42 u43 u44 u45 u46 u47 u48 u49 u50 u51 u52 u53 u54 u55 u56 u57 u58 u59 u60 u61 u62 u63 u64 u65 u66 u67 u68 u69 u70 u71 u72 u73 u74 u75 u76 u77 u78 u79 u80 u81 u82 u83 u84 u85 u86 u87 u88 u89 u90 u91 u92 u93 u94 u95 u96 u97 u98 u99 u100 u101 u102 u103 u104 u105 u106 u107 u108 u109 u110 u111 u112 u113 u114 u115 u116 u117 u118 u119 u120 u121 u122 u123 u124 u125 u126 u127 u128 u129 u130 u131 u132 u133 u134 u135 u136 u137 u138 u139 u140 u141 u142 u143 u144 u145 u146 u147 u148 u149 u150 u151 u152 u153 u154 u155 u156 u157 u158 u159 u160 u161 u162 u163 u164 u165 u166 u167 u168 u169 u170 u171 u172 u173 u174 u175 u176 u177 u178 u179 u180 u181 u182 u183 u184 u185 u186 u187 u188 u189 u190 u191 u192 u193 u194 u195 u196 u197 u198 u199 u200 u201 u202 u203 u204 u205 u206 u207 u208 : Value} (h1 : j < l.length) (h2 : j < 60) (hD : DeedsAt wr oa l) (hP : PlE w wr m r bs bs) {d : Ded} (hd : l[j]? = some d) (hwp : welB d.p = false) (Q0 : Exit → Act → World → Prop) :
    Code.wp Try.prog plays_body (Exit.then (fun a' w'' => plays_WI oa cap l w m a' w'' ∧ plays_mu a' w'' < plays_mu ⟨#[.slice oa l.length cap, undef, u2, .bool true, .pointer (some ⟨m, 0, none⟩), r, (.int .i64 j), u7, u8, u9, u10, u11, u12, u13, u14, u15, undef, undef, undef, undef, undef, .bool true, .pointer (some ⟨m, 0, none⟩), u23, u24, u25, u26, u27, u28, u29, u30, u31, u32, u33, u34, u35, u36, u37, u38, u39, u40, u41, u42, u43, u44, u45, u46, u47, u48, u49, u50, u51, u52, u53, u54, u55, u56, u57, u58, u59, u60, u61, u62, u63, u64, u65, u66, u67, u68, u69, u70, u71, u72, u73, u74, u75, u76, u77, u78, u79, u80, u81, u82, u83, u84, u85, u86, u87, u88, u89, u90, u91, u92, u93, u94, u95, u96, u97, u98, u99, u100, u101, u102, u103, u104, u105, u106, u107, u108, u109, u110, u111, u112, u113, u114, u115, u116, u117, u118, u119, u120, u121, u122, u123, u124, u125, u126, u127, u128, u129, u130, u131, u132, u133, u134, u135, u136, u137, u138, u139, u140, u141, u142, u143, u144, u145, u146, u147, u148, u149, u150, u151, u152, u153, u154, u155, u156, u157, u158, u159, u160, u161, u162, u163, u164, u165, u166, u167, u168, u169, u170, u171, u172, u173, u174, u175, u176, u177, u178, u179, u180, u181, u182, u183, u184, u185, u186, u187, u188, u189, u190, u191, u192, u193, u194, u195, u196, u197, u198, u199, u200, u201, u202, u203, u204, u205, u206, u207, u208, undef, undef, undef, undef, undef, undef, undef, undef, undef, undef, undef, undef, undef, undef, undef, undef, undef, undef, undef, undef, undef, undef, undef, undef, undef, undef, undef, undef, undef, undef, undef, undef, undef, undef, undef, undef, undef, undef, undef, undef, undef, undef, undef, undef, undef, undef, undef, undef, undef, undef, undef, undef, undef, undef, undef, undef, undef, undef, undef, undef, undef, undef, undef, undef, undef, undef, undef, undef, undef, undef, undef, undef, undef, undef, undef, undef], []⟩ wr) Q0) ⟨#[.slice oa l.length cap, undef, u2, .bool true, .pointer (some ⟨m, 0, none⟩), r, (.int .i64 j), u7, u8, u9, u10, u11, u12, u13, u14, u15, undef, undef, undef, undef, undef, .bool true, .pointer (some ⟨m, 0, none⟩), u23, u24, u25, u26, u27, u28, u29, u30, u31, u32, u33, u34, u35, u36, u37, u38, u39, u40, u41, u42, u43, u44, u45, u46, u47, u48, u49, u50, u51, u52, u53, u54, u55, u56, u57, u58, u59, u60, u61, u62, u63, u64, u65, u66, u67, u68, u69, u70, u71, u72, u73, u74, u75, u76, u77, u78, u79, u80, u81, u82, u83, u84, u85, u86, u87, u88, u89, u90, u91, u92, u93, u94, u95, u96, u97, u98, u99, u100, u101, u102, u103, u104, u105, u106, u107, u108, u109, u110, u111, u112, u113, u114, u115, u116, u117, u118, u119, u120, u121, u122, u123, u124, u125, u126, u127, u128, u129, u130, u131, u132, u133, u134, u135, u136, u137, u138, u139, u140, u141, u142, u143, u144, u145, u146, u147, u148, u149, u150, u151, u152, u153, u154, u155, u156, u157, u158, u159, u160, u161, u162, u163, u164, u165, u166, u167, u168, u169, u170, u171, u172, u173, u174, u175, u176, u177, u178, u179, u180, u181, u182, u183, u184, u185, u186, u187, u188, u189, u190, u191, u192, u193, u194, u195, u196, u197, u198, u199, u200, u201, u202, u203, u204, u205, u206, u207, u208, undef, undef, undef, undef, undef, undef, undef, undef, undef, undef, undef, undef, undef, undef, undef, undef, undef, undef, undef, undef, undef, undef, undef, undef, undef, undef, undef, undef, undef, undef, undef, undef, undef, undef, undef, undef, undef, undef, undef, undef, undef, undef, undef, undef, undef, undef, undef, undef, undef, undef, undef, undef, undef, undef, undef, undef, undef, undef, undef, undef, undef, undef, undef, undef, undef, undef, undef, undef, undef, undef, undef, undef, undef, undef, undef, undef], []⟩ wr := by
  have HWP := Lib.hid hwp
  clear hwp
  have HP := Lib.hid hP
  obtain ⟨bl, off, e, hb, hin, hc⟩ := hD j d hd
  subst e
  have c0 := hc 0 (by omega)
  have c1 := hc 1 (by omega)
  have c2 := hc 2 (by omega)
  have c3 := hc 3 (by omega)
  have c4 := hc 4 (by omega)
  have c5 := hc 5 (by omega)
  have c6 := hc 6 (by omega)
  have c7 := hc 7 (by omega)
  have c8 := hc 8 (by omega)
  have c9 := hc 9 (by omega)
  simp only [dedC, ← Nat.add_assoc, Nat.add_zero] at c0 c1 c2 c3 c4 c5 c6 c7 c8 c9
  simp at c0 c1 c2 c3 c4 c5 c6 c7 c8 c9
  have e60 : decide ((j : Int) < 60) = true := decide_eq_true (by omega)
  clear hc hd hb hin hP hD
  conv => arg 2; whnf
  go_wp2_with fail
  refine (show Calls Try.prog 12 #[.agg #[.int .i64 d.p.n, .int .i64 d.p.b, .int .i64 d.p.f]] _ _ from well_any d.p _).mono ?_
  rintro e w3 ⟨rfl, g3⟩
  have HBD := Lib.hid (show w3.heap[wr.heap.size]? = some (.cells (dedC d) 31 (0, 0)) from (g3.block _ (by simp) (by simp)).trans (heap_alloc_new wr (.cells (dedC d) 31)))
  have HPL := Lib.hid (HP.out.grown (grownBy_trans (gr_alloc (grownBy_refl wr none) _) g3))
  clear g3 c0 c1 c2 c3 c4 c5 c6 c7 c8 c9
  rw [HWP.out]
  go_wp2_with fail
  refine ⟨?_, by first | (simp [plays_mu, intOf]; done) | (simp [plays_mu, intOf]; omega)⟩
  unfold plays_WI
  refine ⟨_, _, _, _, _, _, _, _, _, _, _, _, _, _, _, _, _, _, _, _, _, _, _, _, _, _, _, _, _, _, _, _, _, _, _, _, _, _, _, _, _, _, _, _, _, _, _, _, _, _, _, _, _, _, _, _, _, _, _, _, _, _, _, _, _, _, _, _, _, _, _, _, _, _, _, _, _, _, _, _, _, _, _, _, _, _, _, _, _, _, _, _, _, _, _, _, _, _, _, _, _, _, _, _, _, _, _, _, _, _, _, _, _, _, _, _, _, _, _, _, _, _, _, _, _, _, _, _, _, _, _, _, _, _, _, _, _, _, _, _, _, _, _, _, _, _, _, _, _, _, _, _, _, _, _, _, _, _, _, _, _, _, _, _, _, _, _, _, _, _, _, _, _, _, _, _, _, _, _, _, _, _, _, _, _, _, _, _, _, _, _, _, _, _, _, _, _, _, ?_, rfl⟩
  exact ⟨j + 1, bs, by omega, by omega, by go_num, HPL.out⟩
set_option maxRecDepth 1000000 in
set_option maxHeartbeats 100000000 in
theorem plays_nw2 {oa : Option Addr} {cap : Nat} {l : List Ded} {w wr : World} {m : Nat} {bs : List Blk} {j : Nat} {r u2 u7 u8 u9 u10 u11 u12 u13 u14 u15 u23 u24 u25 u26 u27 u28 u29 u30 u31 u32 u33 u34 u35 u36 u37 u38 u39 u40 u41 u42 u43 u44 u45 u46 u47 u48 u49 u50 u51 u52 u53 u54 u55 u56 u57 u58 u59 u60 u61 u62 u63 u64 u65 u66 u67 u68 u69 u70 u71 u72 u73 u74 u75 u76 u77 u78 u79 u80 u81 u82 u83 u84 u85 u86 u87 u88 u89 u90 u91 u92 u93 u94 u95 u96 u97 u98 u99 u100 u101 u102 u103 u104 u105 u106 u107 u108 u109 u110 u111 u112 u113 u114 u115 u116 u117 u118 u119 u120 u121 u122 u123 u124 u125 u126 u127 u128 u129 u130 u131 u132 u133 u134 u135 u136 u137 u138 u139 u140 u141 u142 u143 u144 u145 u146 u147 u148 u149 u150 u151 u152 u153 u154 u155 u156 u157 u158 u159 u160 u161 u162 u163 u164 u165 u166 u167 u168 u169 u170 u171 u172 u173 u174 u175 u176 u177 u178 u179 u180 u181 u182 u183 u184 u185 u186 u187 u188 u189 u190 u191 u192 u193 u194 u195 u196 u197 u198 u199 u200 u201 u202 u203 u204 u205 u206 u207 u208 : Value} (h1 : j < l.length) (h2 : j < 60) (hD : DeedsAt wr oa l) (hP : PlE w wr m r bs bs) {d : Ded} (hd : l[j]? = some d) (hwp : welB d.p = true) (hwq : welB d.q = false) (Q0 : Exit → Act → World → Prop) :
    Code.wp Try.prog plays_body (Exit.then (fun a' w'' => plays_WI oa cap l w m a' w'' ∧ plays_mu a' w'' < plays_mu ⟨#[.slice oa l.length cap, undef, u2, .bool true, .pointer (some ⟨m, 0, none⟩), r, (.int .i64 j), u7, u8, u9, u10, u11, u12, u13, u14, u15, undef, undef, undef, undef, undef, .bool true, .pointer (some ⟨m, 0, none⟩), u23, u24, u25, u26, u27, u28, u29, u30, u31, u32, u33, u34, u35, u36, u37, u38, u39, u40, u41, u42, u43, u44, u45, u46, u47, u48, u49, u50, u51, u52, u53, u54, u55, u56, u57, u58, u59, u60, u61, u62, u63, u64, u65, u66, u67, u68, u69, u70, u71, u72, u73, u74, u75, u76, u77, u78, u79, u80, u81, u82, u83, u84, u85, u86, u87, u88, u89, u90, u91, u92, u93, u94, u95, u96, u97, u98, u99, u100, u101, u102, u103, u104, u105, u106, u107, u108, u109, u110, u111, u112, u113, u114, u115, u116, u117, u118, u119, u120, u121, u122, u123, u124, u125, u126, u127, u128, u129, u130, u131, u132, u133, u134, u135, u136, u137, u138, u139, u140, u141, u142, u143, u144, u145, u146, u147, u148, u149, u150, u151, u152, u153, u154, u155, u156, u157, u158, u159, u160, u161, u162, u163, u164, u165, u166, u167, u168, u169, u170, u171, u172, u173, u174, u175, u176, u177, u178, u179, u180, u181, u182, u183, u184, u185, u186, u187, u188, u189, u190, u191, u192, u193, u194, u195, u196, u197, u198, u199, u200, u201, u202, u203, u204, u205, u206, u207, u208, undef, undef, undef, undef, undef, undef, undef, undef, undef, undef, undef, undef, undef, undef, undef, undef, undef, undef, undef, undef, undef, undef, undef, undef, undef, undef, undef, undef, undef, undef, undef, undef, undef, undef, undef, undef, undef, undef, undef, undef, undef, undef, undef, undef, undef, undef, undef, undef, undef, undef, undef, undef, undef, undef, undef, undef, undef, undef, undef, undef, undef, undef, undef, undef, undef, undef, undef, undef, undef, undef, undef, undef, undef, undef, undef, undef], []⟩ wr) Q0) ⟨#[.slice oa l.length cap, undef, u2, .bool true, .pointer (some ⟨m, 0, none⟩), r, (.int .i64 j), u7, u8, u9, u10, u11, u12, u13, u14, u15, undef, undef, undef, undef, undef, .bool true, .pointer (some ⟨m, 0, none⟩), u23, u24, u25, u26, u27, u28, u29, u30, u31, u32, u33, u34, u35, u36, u37, u38, u39, u40, u41, u42, u43, u44, u45, u46, u47, u48, u49, u50, u51, u52, u53, u54, u55, u56, u57, u58, u59, u60, u61, u62, u63, u64, u65, u66, u67, u68, u69, u70, u71, u72, u73, u74, u75, u76, u77, u78, u79, u80, u81, u82, u83, u84, u85, u86, u87, u88, u89, u90, u91, u92, u93, u94, u95, u96, u97, u98, u99, u100, u101, u102, u103, u104, u105, u106, u107, u108, u109, u110, u111, u112, u113, u114, u115, u116, u117, u118, u119, u120, u121, u122, u123, u124, u125, u126, u127, u128, u129, u130, u131, u132, u133, u134, u135, u136, u137, u138, u139, u140, u141, u142, u143, u144, u145, u146, u147, u148, u149, u150, u151, u152, u153, u154, u155, u156, u157, u158, u159, u160, u161, u162, u163, u164, u165, u166, u167, u168, u169, u170, u171, u172, u173, u174, u175, u176, u177, u178, u179, u180, u181, u182, u183, u184, u185, u186, u187, u188, u189, u190, u191, u192, u193, u194, u195, u196, u197, u198, u199, u200, u201, u202, u203, u204, u205, u206, u207, u208, undef, undef, undef, undef, undef, undef, undef, undef, undef, undef, undef, undef, undef, undef, undef, undef, undef, undef, undef, undef, undef, undef, undef, undef, undef, undef, undef, undef, undef, undef, undef, undef, undef, undef, undef, undef, undef, undef, undef, undef, undef, undef, undef, undef, undef, undef, undef, undef, undef, undef, undef, undef, undef, undef, undef, undef, undef, undef, undef, undef, undef, undef, undef, undef, undef, undef, undef, undef, undef, undef, undef, undef, undef, undef, undef, undef], []⟩ wr := by
  have HWP := Lib.hid hwp
  clear hwp
  have HWQ := Lib.hid hwq
  clear hwq
  have HP := Lib.hid hP
  obtain ⟨bl, off, e, hb, hin, hc⟩ := hD j d hd
  subst e
  have c0 := hc 0 (by omega)
  have c1 := hc 1 (by omega)
  have c2 := hc 2 (by omega)
  have c3 := hc 3 (by omega)
  have c4 := hc 4 (by omega)
  have c5 := hc 5 (by omega)
  have c6 := hc 6 (by omega)
  have c7 := hc 7 (by omega)
  have c8 := hc 8 (by omega)
  have c9 := hc 9 (by omega)
  simp only [dedC, ← Nat.add_assoc, Nat.add_zero] at c0 c1 c2 c3 c4 c5 c6 c7 c8 c9
  simp at c0 c1 c2 c3 c4 c5 c6 c7 c8 c9
  have e60 : decide ((j : Int) < 60) = true := decide_eq_true (by omega)
  clear hc hd hb hin hP hD
  conv => arg 2; whnf
  go_wp2_with fail
  refine (show Calls Try.prog 12 #[.agg #[.int .i64 d.p.n, .int .i64 d.p.b, .int .i64 d.p.f]] _ _ from well_any d.p _).mono ?_
  rintro e w3 ⟨rfl, g3⟩
  have HBD := Lib.hid (show w3.heap[wr.heap.size]? = some (.cells (dedC d) 31 (0, 0)) from (g3.block _ (by simp) (by simp)).trans (heap_alloc_new wr (.cells (dedC d) 31)))
  have HPL := Lib.hid (HP.out.grown (grownBy_trans (gr_alloc (grownBy_refl wr none) _) g3))
  clear g3 c0 c1 c2 c3 c4 c5 c6 c7 c8 c9
  rw [HWP.out]
  obtain ⟨q0, q1, q2, q3, q4, q5, q6, q7, q8, q9⟩ := deed_cells HBD.out
  go_wp2_with fail
  refine (show Calls Try.prog 12 #[.agg #[.int .i64 d.q.n, .int .i64 d.q.b, .int .i64 d.q.f]] _ _ from well_any d.q _).mono ?_
  rintro e w4 ⟨rfl, g4⟩
  have HBD4 := Lib.hid ((g4.block _ (lt_of_heap HBD.out) (by simp)).trans HBD.out)
  have HPL4 := Lib.hid (HPL.out.grown g4)
  clear g4 q0 q1 q2 q3 q4 q5 q6 q7 q8 q9
  rw [HWQ.out]
  go_wp2_with fail
  refine ⟨?_, by first | (simp [plays_mu, intOf]; done) | (simp [plays_mu, intOf]; omega)⟩
  unfold plays_WI
  refine ⟨_, _, _, _, _, _, _, _, _, _, _, _, _, _, _, _, _, _, _, _, _, _, _, _, _, _, _, _, _, _, _, _, _, _, _, _, _, _, _, _, _, _, _, _, _, _, _, _, _, _, _, _, _, _, _, _, _, _, _, _, _, _, _, _, _, _, _, _, _, _, _, _, _, _, _, _, _, _, _, _, _, _, _, _, _, _, _, _, _, _, _, _, _, _, _, _, _, _, _, _, _, _, _, _, _, _, _, _, _, _, _, _, _, _, _, _, _, _, _, _, _, _, _, _, _, _, _, _, _, _, _, _, _, _, _, _, _, _, _, _, _, _, _, _, _, _, _, _, _, _, _, _, _, _, _, _, _, _, _, _, _, _, _, _, _, _, _, _, _, _, _, _, _, _, _, _, _, _, _, _, _, _, _, _, _, _, _, _, _, _, _, _, _, _, _, _, _, _, ?_, rfl⟩
  exact ⟨j + 1, bs, by omega, by omega, by go_num, HPL4.out⟩

end Go.Proofs.Ytblhnjoophhliaa
