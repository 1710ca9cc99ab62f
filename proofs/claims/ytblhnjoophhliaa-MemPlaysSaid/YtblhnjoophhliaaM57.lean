/- MemPlays, walked. -/
import Derived.Test.YtblhnjoophhliaaM56
namespace Go.Proofs.Ytblhnjoophhliaa
open Go.RowKit
set_option maxRecDepth 1000000 in
set_option maxHeartbeats 100000000 in
theorem plays_walk (oa : Option Addr) (cap : Nat) (l : List Ded) (w : World) (hA : DeedsAt w oa l) :
    Calls Try.prog 3 #[.slice oa l.length cap] w fun e w' => e = .returned (.bool true) ∧ w.grownBy w' none := by
  have HD := Lib.hid hA
  clear hA
  go_enter Try.func3, Try.ntmps3
  go_wp2_with fail
  refine (shown_any _).mono ?_
  rintro e w1 ⟨rfl, hg⟩
  have HG1 := Lib.hid hg
  clear hg
  go_wp2_with fail
  refine (New_any w1).mono ?_
  rintro e w2 ⟨rfl, rfl⟩
  have HP0 := Lib.hid (PlE.first w w1 HG1.out)
  clear HG1
  generalize (w1.alloc (.cells #[.slice none 0 0] 73)) = w2 at *
  generalize w1.heap.size = m at *
  go_wp2_with fail
  refine plays_loop (oa := oa) (cap := cap) (l := l) (w := w) (m := m) HD.out _ _ ?hI _ ?hx
  case hI =>
    unfold plays_WI
    refine ⟨_, _, _, _, _, _, _, _, _, _, _, _, _, _, _, _, _, _, _, _, _, _, _, _, _, _, _, _, _, _, _, _, _, _, _, _, _, _, _, _, _, _, _, _, _, _, _, _, _, _, _, _, _, _, _, _, _, _, _, _, _, _, _, _, _, _, _, _, _, _, _, _, _, _, _, _, _, _, _, _, _, _, _, _, _, _, _, _, _, _, _, _, _, _, _, _, _, _, _, _, _, _, _, _, _, _, _, _, _, _, _, _, _, _, _, _, _, _, _, _, _, _, _, _, _, _, _, _, _, _, _, _, _, _, _, _, _, _, _, _, _, _, _, _, _, _, _, _, _, _, _, _, _, _, _, _, _, _, _, _, _, _, _, _, _, _, _, _, _, _, _, _, _, _, _, _, _, _, _, _, _, _, _, _, _, _, _, _, _, _, _, _, _, _, _, _, _, _, ?_, rfl⟩
    exact ⟨0, [], Nat.zero_le _, by omega, rfl, HP0.out⟩
  case hx =>
    intro a' wx hI
    unfold plays_WI at hI
    obtain ⟨u2, hI⟩ := hI
    obtain ⟨u5, hI⟩ := hI
    obtain ⟨u6, hI⟩ := hI
    obtain ⟨u7, hI⟩ := hI
    obtain ⟨u8, hI⟩ := hI
    obtain ⟨u9, hI⟩ := hI
    obtain ⟨u10, hI⟩ := hI
    obtain ⟨u11, hI⟩ := hI
    obtain ⟨u12, hI⟩ := hI
    obtain ⟨u13, hI⟩ := hI
    obtain ⟨u14, hI⟩ := hI
    obtain ⟨u15, hI⟩ := hI
    obtain ⟨u23, hI⟩ := hI
    obtain ⟨u24, hI⟩ := hI
    obtain ⟨u25, hI⟩ := hI
    obtain ⟨u26, hI⟩ := hI
    obtain ⟨u27, hI⟩ := hI
    obtain ⟨u28, hI⟩ := hI
    obtain ⟨u29, hI⟩ := hI
    obtain ⟨u30, hI⟩ := hI
    obtain ⟨u31, hI⟩ := hI
    obtain ⟨u32, hI⟩ := hI
    obtain ⟨u33, hI⟩ := hI
    obtain ⟨u34, hI⟩ := hI
    obtain ⟨u35, hI⟩ := hI
    obtain ⟨u36, hI⟩ := hI
    obtain ⟨u37, hI⟩ := hI
    obtain ⟨u38, hI⟩ := hI
    obtain ⟨u39, hI⟩ := hI
    obtain ⟨u40, hI⟩ := hI
    obtain ⟨u41, hI⟩ := hI
    obtain ⟨u42, hI⟩ := hI
    obtain ⟨u43, hI⟩ := hI
    obtain ⟨u44, hI⟩ := hI
    obtain ⟨u45, hI⟩ := hI
    obtain ⟨u46, hI⟩ := hI
    obtain ⟨u47, hI⟩ := hI
    obtain ⟨u48, hI⟩ := hI
    obtain ⟨u49, hI⟩ := hI
    obtain ⟨u50, hI⟩ := hI
    obtain ⟨u51, hI⟩ := hI
    obtain ⟨u52, hI⟩ := hI
    obtain ⟨u53, hI⟩ := hI
    obtain ⟨u54, hI⟩ := hI
    obtain ⟨u55, hI⟩ := hI
    obtain ⟨u56, hI⟩ := hI
    obtain ⟨u57, hI⟩ := hI
    obtain ⟨u58, hI⟩ := hI
    obtain ⟨u59, hI⟩ := hI
    obtain ⟨u60, hI⟩ := hI
    obtain ⟨u61, hI⟩ := hI
    obtain ⟨u62, hI⟩ := hI
    obtain ⟨u63, hI⟩ := hI
    obtain ⟨u64, hI⟩ := hI
    obtain ⟨u65, hI⟩ := hI
    obtain ⟨u66, hI⟩ := hI
    obtain ⟨u67, hI⟩ := hI
    obtain ⟨u68, hI⟩ := hI
    obtain ⟨u69, hI⟩ := hI
    obtain ⟨u70, hI⟩ := hI
    obtain ⟨u71, hI⟩ := hI
    obtain ⟨u72, hI⟩ := hI
    obtain ⟨u73, hI⟩ := hI
    obtain ⟨u74, hI⟩ := hI
    obtain ⟨u75, hI⟩ := hI
    obtain ⟨u76, hI⟩ := hI
    obtain ⟨u77, hI⟩ := hI
    obtain ⟨u78, hI⟩ := hI
    obtain ⟨u79, hI⟩ := hI
    obtain ⟨u80, hI⟩ := hI
    obtain ⟨u81, hI⟩ := hI
    obtain ⟨u82, hI⟩ := hI
    obtain ⟨u83, hI⟩ := hI
    obtain ⟨u84, hI⟩ := hI
    obtain ⟨u85, hI⟩ := hI
    obtain ⟨u86, hI⟩ := hI
    obtain ⟨u87, hI⟩ := hI
    obtain ⟨u88, hI⟩ := hI
    obtain ⟨u89, hI⟩ := hI
    obtain ⟨u90, hI⟩ := hI
    obtain ⟨u91, hI⟩ := hI
    obtain ⟨u92, hI⟩ := hI
    obtain ⟨u93, hI⟩ := hI
    obtain ⟨u94, hI⟩ := hI
    obtain ⟨u95, hI⟩ := hI
    obtain ⟨u96, hI⟩ := hI
    obtain ⟨u97, hI⟩ := hI
    obtain ⟨u98, hI⟩ := hI
    obtain ⟨u99, hI⟩ := hI
    obtain ⟨u100, hI⟩ := hI
    obtain ⟨u101, hI⟩ := hI
    obtain ⟨u102, hI⟩ := hI
    obtain ⟨u103, hI⟩ := hI
    obtain ⟨u104, hI⟩ := hI
    obtain ⟨u105, hI⟩ := hI
    obtain ⟨u106, hI⟩ := hI
    obtain ⟨u107, hI⟩ := hI
    obtain ⟨u108, hI⟩ := hI
    obtain ⟨u109, hI⟩ := hI
    obtain ⟨u110, hI⟩ := hI
    obtain ⟨u111, hI⟩ := hI
    obtain ⟨u112, hI⟩ := hI
    obtain ⟨u113, hI⟩ := hI
    obtain ⟨u114, hI⟩ := hI
    obtain ⟨u115, hI⟩ := hI
    obtain ⟨u116, hI⟩ := hI
    obtain ⟨u117, hI⟩ := hI
    obtain ⟨u118, hI⟩ := hI
    obtain ⟨u119, hI⟩ := hI
    obtain ⟨u120, hI⟩ := hI
    obtain ⟨u121, hI⟩ := hI
    obtain ⟨u122, hI⟩ := hI
    obtain ⟨u123, hI⟩ := hI
    obtain ⟨u124, hI⟩ := hI
    obtain ⟨u125, hI⟩ := hI
    obtain ⟨u126, hI⟩ := hI
    obtain ⟨u127, hI⟩ := hI
    obtain ⟨u128, hI⟩ := hI
    obtain ⟨u129, hI⟩ := hI
    obtain ⟨u130, hI⟩ := hI
    obtain ⟨u131, hI⟩ := hI
    obtain ⟨u132, hI⟩ := hI
    obtain ⟨u133, hI⟩ := hI
    obtain ⟨u134, hI⟩ := hI
    obtain ⟨u135, hI⟩ := hI
    obtain ⟨u136, hI⟩ := hI
    obtain ⟨u137, hI⟩ := hI
    obtain ⟨u138, hI⟩ := hI
    obtain ⟨u139, hI⟩ := hI
    obtain ⟨u140, hI⟩ := hI
    obtain ⟨u141, hI⟩ := hI
    obtain ⟨u142, hI⟩ := hI
    obtain ⟨u143, hI⟩ := hI
    obtain ⟨u144, hI⟩ := hI
    obtain ⟨u145, hI⟩ := hI
    obtain ⟨u146, hI⟩ := hI
    obtain ⟨u147, hI⟩ := hI
    obtain ⟨u148, hI⟩ := hI
    obtain ⟨u149, hI⟩ := hI
    obtain ⟨u150, hI⟩ := hI
    obtain ⟨u151, hI⟩ := hI
    obtain ⟨u152, hI⟩ := hI
    obtain ⟨u153, hI⟩ := hI
    obtain ⟨u154, hI⟩ := hI
    obtain ⟨u155, hI⟩ := hI
    obtain ⟨u156, hI⟩ := hI
    obtain ⟨u157, hI⟩ := hI
    obtain ⟨u158, hI⟩ := hI
    obtain ⟨u159, hI⟩ := hI
    obtain ⟨u160, hI⟩ := hI
    obtain ⟨u161, hI⟩ := hI
    obtain ⟨u162, hI⟩ := hI
    obtain ⟨u163, hI⟩ := hI
    obtain ⟨u164, hI⟩ := hI
    obtain ⟨u165, hI⟩ := hI
    obtain ⟨u166, hI⟩ := hI
    obtain ⟨u167, hI⟩ := hI
    obtain ⟨u168, hI⟩ := hI
    obtain ⟨u169, hI⟩ := hI
    obtain ⟨u170, hI⟩ := hI
    obtain ⟨u171, hI⟩ := hI
    obtain ⟨u172, hI⟩ := hI
    obtain ⟨u173, hI⟩ := hI
    obtain ⟨u174, hI⟩ := hI
    obtain ⟨u175, hI⟩ := hI
    obtain ⟨u176, hI⟩ := hI
    obtain ⟨u177, hI⟩ := hI
    obtain ⟨u178, hI⟩ := hI
    obtain ⟨u179, hI⟩ := hI
    obtain ⟨u180, hI⟩ := hI
    obtain ⟨u181, hI⟩ := hI
    obtain ⟨u182, hI⟩ := hI
    obtain ⟨u183, hI⟩ := hI
    obtain ⟨u184, hI⟩ := hI
    obtain ⟨u185, hI⟩ := hI
    obtain ⟨u186, hI⟩ := hI
    obtain ⟨u187, hI⟩ := hI
    obtain ⟨u188, hI⟩ := hI
    obtain ⟨u189, hI⟩ := hI
    obtain ⟨u190, hI⟩ := hI
    obtain ⟨u191, hI⟩ := hI
    obtain ⟨u192, hI⟩ := hI
    obtain ⟨u193, hI⟩ := hI
    obtain ⟨u194, hI⟩ := hI
    obtain ⟨u195, hI⟩ := hI
    obtain ⟨u196, hI⟩ := hI
    obtain ⟨u197, hI⟩ := hI
    obtain ⟨u198, hI⟩ := hI
    obtain ⟨u199, hI⟩ := hI
    obtain ⟨u200, hI⟩ := hI
    obtain ⟨u201, hI⟩ := hI
    obtain ⟨u202, hI⟩ := hI
    obtain ⟨u203, hI⟩ := hI
    obtain ⟨u204, hI⟩ := hI
    obtain ⟨u205, hI⟩ := hI
    obtain ⟨u206, hI⟩ := hI
    obtain ⟨u207, hI⟩ := hI
    obtain ⟨u208, hI⟩ := hI
    obtain ⟨⟨j, bs, hj, hj60, rfl, hP⟩, rfl⟩ := hI
    obtain ⟨L, S, rs, ad, c, hp⟩ := hP
    have hv := hp.val
    subst hv
    have HPl := Lib.hid hp
    have hsm := hp.ref.small
    clear hp
    go_wp2_with fail
    go_loopw [16] (fun i W => ∃ q : Int, -1 ≤ q ∧ q ≤ (rs.length : Int) + 2 ∧ i = .int .i64 q ∧ Pl w W m (.slice ad rs.length c) bs bs L S rs ad c) (fun i _ => ((rs.length : Int) + 2 - intOf i).toNat)
    case atStart => exact ⟨-1, by omega, by omega, rfl, HPl.out⟩
    case round =>
      obtain ⟨q, hq0, hq1, rfl, hp⟩ := hrel
      have HQ := Lib.hid hp
      have hLl : L.length = rs.length := by have h1 := congrArg List.length (hp.hm.trans hp.hr.symm); rwa [List.length_map, rsB_len] at h1
      clear hp
      by_cases hlt : q ≤ (rs.length : Int) + 1
      · rcases hf : findI rs.length q with _ | k
        · have HF := Lib.hid hf
          have HE1 := Lib.hid (show blockP L q = (0, 0, false) from by unfold blockP; rw [hLl, hf])
          have HE2 := Lib.hid (show bytesP L q = [] from by unfold bytesP; rw [hLl, hf])
          clear hf hLl
          go_wp2_with fail
          refine (block_st q HQ.out.st).mono ?_
          rintro e w3 ⟨rfl, _, g3⟩
          rw [HE1.out]
          have HQ3 := Lib.hid (HQ.out.grown g3)
          clear g3
          go_wp2_with fail
          refine (bytes_st q HQ3.out.st).mono ?_
          rintro e w4 ⟨v, rfl, hl, _, g4⟩
          rw [HE2.out] at hl
          have HQ4 := Lib.hid (HQ3.out.grown g4)
          obtain ⟨va, rfl⟩ : ∃ va, v = .slice va 0 0 := by
            rcases hl with ⟨rfl, _⟩ | ⟨g, rfl, _⟩
            · exact ⟨_, rfl⟩
            · exact ⟨_, rfl⟩
          clear g4 hl
          go_wp2_with fail
          refine (Is_any _ _ _ _ _).mono ?_
          rintro e w5 ⟨rfl, rfl⟩
          rw [HF.out]
          go_wp2_with fail
          go_roundw
          case rel => exact ⟨q + 1, by omega, by omega, rfl, HQ4.out⟩
          case measure => first | (simp [intOf]; done) | (simp [intOf]; omega)
        · obtain ⟨hqk, hk⟩ := findI_some hf
          subst hqk
          have HF := Lib.hid hf
          have hx := List.getElem?_eq_getElem hk
          generalize rs[k] = x at hx
          have hy : (L.map (·.2))[k]? = some (rbB x) := by rw [HQ.out.hm, ← HQ.out.hr, rsB_at, hx]; rfl
          rw [List.getElem?_map] at hy
          obtain ⟨y, hy1, hy2⟩ := Option.map_eq_some_iff.1 hy
          have HE1 := Lib.hid (show blockP L ((k : Int) + 1) = (x.site, (x.bytes.length : Int), !x.ended) from by unfold blockP; rw [hLl, hf]; simp only [hy1]; rw [hy2]; rfl)
          have HE2 := Lib.hid (show bytesP L ((k : Int) + 1) = x.bytes from by unfold bytesP; rw [hLl, hf]; simp only [hy1]; rw [hy2]; rfl)
          have HX := Lib.hid hx
          clear hf hLl hy hy1 hy2 hx
          go_wp2_with fail
          refine (block_st ((k : Int) + 1) HQ.out.st).mono ?_
          rintro e w3 ⟨rfl, _, g3⟩
          rw [HE1.out]
          have HQ3 := Lib.hid (HQ.out.grown g3)
          clear g3
          go_wp2_with fail
          refine (bytes_st ((k : Int) + 1) HQ3.out.st).mono ?_
          rintro e w4 ⟨v, rfl, hl, _, g4⟩
          rw [HE2.out] at hl
          have HQ4 := Lib.hid (HQ3.out.grown g4)
          obtain ⟨va, vc, rfl, hrd⟩ : ∃ va vc, v = .slice va x.bytes.length vc ∧ RdAt w4 va x.bytes := by
            rcases hl with ⟨rfl, e⟩ | ⟨g, rfl, _, hb⟩
            · exact ⟨none, 0, by rw [e]; rfl, .inl e⟩
            · exact ⟨_, _, rfl, hb.rd⟩
          have HRD := Lib.hid hrd
          clear g4 hl hrd
          obtain ⟨g, hag, hgl, c0, c1, c2⟩ := HQ4.out.ref.cells HX.out
          subst hag
          have HSM := Lib.hid (Same_self va x.ad vc x.cap x.bytes w4 (by have := (HQ4.out.ref.each x (List.mem_of_getElem? HX.out)).2.2.1; omega) HRD.out (HQ4.out.ref.each x (List.mem_of_getElem? HX.out)).1)
          have hk1 : (k : Int) < (rs.length : Int) := by omega
          go_wp2_with fail
          refine (Is_any _ _ _ _ _).mono ?_
          rintro e w5 ⟨rfl, rfl⟩
          rw [HF.out]
          rcases hxe : x.ended
          · rw [hxe] at c2
            clear hxe
            go_wp2_with fail
            refine HSM.out.mono ?_
            rintro e w6 ⟨rfl, g6⟩
            have HQ6 := Lib.hid (HQ4.out.grown g6)
            clear g6 c0 c1 c2
            go_wp2_with fail
            go_roundw
            case rel => exact ⟨(k : Int) + 1 + 1, by omega, by omega, rfl, HQ6.out⟩
            case measure => first | (simp [intOf]; done) | (simp [intOf]; omega)
          · rw [hxe] at c2
            clear hxe
            go_wp2_with fail
            refine HSM.out.mono ?_
            rintro e w6 ⟨rfl, g6⟩
            have HQ6 := Lib.hid (HQ4.out.grown g6)
            clear g6 c0 c1 c2
            go_wp2_with fail
            go_roundw
            case rel => exact ⟨(k : Int) + 1 + 1, by omega, by omega, rfl, HQ6.out⟩
            case measure => first | (simp [intOf]; done) | (simp [intOf]; omega)
      · have e1 : decide (q ≤ (rs.length : Int) + 1) = false := decide_eq_false hlt
        clear hLl
        go_wp2_with fail
        go_ret
        exact ⟨rfl, HQ.out.st.gr⟩

end Go.Proofs.Ytblhnjoophhliaa
