/- The document's answer: Tokens. -/
import Derived.Test.YthbhlmkgbinegaaDoorE8
import Derived.Test.YthbhlmkgbinegaaDoorS1
namespace Go.Proofs.YthbhlmkgbinegaaDoor
open Go.RowKit
def RMakesBad (r : ByteArray) (er : Int) : Prop := ∀ w, Calls Tryd.prog 32 #[.string r] w fun e w' => (∃ (kd vl : Int) (tx : ByteArray), e = .returned (.tuple #[.agg #[.int .i64 kd, .int .i64 0, .string tx, .int .i64 vl], .int .i64 er])) ∧ Below w.heap.size w w'
def RMakes (r : ByteArray) (kd : Int) (tx : ByteArray) (vl : Int) : Prop := ∀ w, Calls Tryd.prog 32 #[.string r] w fun e w' => e = .returned (.tuple #[.agg #[.int .i64 kd, .int .i64 0, .string tx, .int .i64 vl], .int .i64 0]) ∧ Below w.heap.size w w'
theorem rmakes (r : ByteArray) (hs : r.size ≤ 20000) (h0 : 0 < r.size) (he : (tokR r.data.toList).err = 0) : RMakes r (tokR r.data.toList).kind (r.extract 0 (tokR r.data.toList).len) (tokR r.data.toList).val := by
  intro w
  refine (rToken r w hs h0).mono fun e w' ⟨h1, h2⟩ => ⟨?_, h2⟩
  rcases h1 with ⟨_, h1⟩ | ⟨h1, _⟩
  · rw [h1, tokV, he]
  · exact absurd he h1
theorem rmakesBad (r : ByteArray) (hs : r.size ≤ 20000) (h0 : 0 < r.size) (he : (tokR r.data.toList).err ≠ 0) : RMakesBad r (tokR r.data.toList).err := by
  intro w
  refine (rToken r w hs h0).mono fun e w' ⟨h1, h2⟩ => ⟨?_, h2⟩
  rcases h1 with ⟨h1, _⟩ | ⟨_, kd, vl, tx, h1⟩
  · exact absurd h1 he
  · exact ⟨kd, vl, tx, h1⟩
theorem own_ge {wr : World} {base : Nat} {e : TypeId} {size : Nat} {v : Value} {n o b : Nat} {xs : List Value} (h : wr.ownsRow base e size v n xs) (hb : wr.heap.size ≤ b) : some (⟨b, o, none⟩ : Addr).block ≠ v.ownBlock := by
  intro e
  have := (h.lt b e.symm).2
  omega
set_option maxRecDepth 100000 in
set_option maxHeartbeats 1000000 in
theorem rTokens_long (s : ByteArray) (w : World) (hs : 20000 < s.size) :
    Calls Tryd.prog 13 #[.string s] w (TokPost w (tokensR s.data.toList)) := by
  have hr : tokensR s.data.toList = .bad 0 5 := by unfold tokensR; rw [if_pos (by simpa using hs)]
  rw [hr]
  go_enter Tryd.func13, Tryd.ntmps13
  go_wp2_with fail
  go_ret3
  exact ⟨Below.refl _ _, rfl⟩
set_option maxRecDepth 100000 in
set_option maxHeartbeats 16000000 in
theorem rTokens_short (s : ByteArray) (w : World) (hs : s.size ≤ 20000) :
    Calls Tryd.prog 13 #[.string s] w (TokPost w (lexG s.data.toList 0)) := by
  go_enter Tryd.func13, Tryd.ntmps13
  go_wp2_with fail
  go_loopw [5, 6] (fun v i wr => ∃ (k : Nat) (acc : List T4), k ≤ s.size ∧ i = .int .i64 k ∧ Hid (acc.length ≤ k) ∧ Hid (wr.ownsRow w.heap.size 34 4 v acc.length (cellsOf acc)) ∧ Hid (Below w.heap.size w wr) ∧ Hid (lexG s.data.toList 0 = Res.pre acc (lexG (s.data.toList.drop k) k)))
    (fun _ i _ => s.size - (intOf i).toNat)
  case atStart => exact ⟨0, [], Nat.zero_le _, rfl, Nat.le_refl _, World.ownsRow_nil _ _ _ _, Below.refl _ _, by show _ = _; rw [pre_nil]; rfl⟩
  case round =>
    obtain ⟨k, acc, hk, rfl, hal, hown, hB, hG⟩ := hrel
    go_wp2_with fail
    refine (rBlank s k hs hk _).mono ?_
    rintro e w' ⟨⟨p, q, rfl, hbl⟩, rfl⟩
    rcases hbl with ⟨m, rfl, rfl, hkm, hml, hlex, hnext⟩ | ⟨m, rfl, rfl, hlex⟩
    · have hml2 : m ≤ s.size := by simpa using hml
      have hG1 := (hG.out).trans (by rw [hlex])
      by_cases hlt : m < s.size
      · obtain ⟨hspR, hnote⟩ := hnext (by simpa using hlt)
        have hp : 0 < (s.extract m s.size).size := by simp; omega
        have hsz : (s.extract m s.size).size ≤ 20000 := by simp; omega
        have hdr : (s.extract m s.size).data.toList = s.data.toList.drop m := ext_drop s m
        obtain ⟨R, hRR⟩ : ∃ R, s.data.toList.drop m = R := ⟨_, rfl⟩
        have hRdrop : ∀ n, R.drop n = s.data.toList.drop (m + n) := fun n => by rw [← hRR, List.drop_drop]
        rw [hRR] at hdr hG1 hspR hnote
        have hRne : R ≠ [] := by
          intro e; rw [← hRR] at e; have := congrArg List.length e; simp at this; omega
        by_cases he : (tokR R).err = 0
        · have hM := rmakes (s.extract m s.size) hsz hp (by rw [hdr]; exact he)
          rw [hdr] at hM
          obtain ⟨hn1', hn2'⟩ := tok_len R (headD_len hRne) he
          have hG2 := hG1.trans (by rw [step_tok hRne hspR hnote he, pre_cons])
          obtain ⟨n, hn⟩ : ∃ n, (tokR R).len = n := ⟨_, rfl⟩
          obtain ⟨kd, hkd⟩ : ∃ kd, (tokR R).kind = kd := ⟨_, rfl⟩
          obtain ⟨vl, hvl⟩ : ∃ vl, (tokR R).val = vl := ⟨_, rfl⟩
          rw [hn, hkd, hvl] at hM hG2
          rw [hn] at hn1' hn2'
          rw [hRdrop] at hG2
          have hRl : R.length = s.size - m := by rw [← hdr]; simp
          obtain ⟨tx, htx⟩ : ∃ tx, (s.extract m s.size).extract 0 n = tx := ⟨_, rfl⟩
          have htsz : tx.size = n := by rw [← htx, ByteArray.size_extract, ext_size]; omega
          have HTX : Hid (tx = ⟨(R.take n).toArray⟩) := by
            show _ = _
            rw [← htx]; apply ByteArray.ext; apply Array.ext'; rw [ext_take, hdr]
          rw [htx] at hM
          have HM := Lib.hid hM
          have HG := Lib.hid hG2
          have hkn : m + n ≤ s.size := by omega
          clear hM hG2 hn hkd hvl htx he hRl hRdrop hdr hRne hspR hnote hG hG1 hn2' hRR hlex hnext hml
          subst htsz
          go_wp2_with fail
          refine (HM.out _).mono ?_
          rintro e w2 ⟨rfl, hb2⟩
          have HB2 := Lib.hid hb2
          have hz := hb2.size
          clear hb2
          go_upto_region 15 with (fail)
          have HH5 := Lib.hid (new_heap (Below.refl (w2.alloc (.cells #[.int .i64 kd, .int .i64 m, .string tx, .int .i64 vl] 34)).heap.size (w2.alloc (.cells #[.int .i64 kd, .int .i64 m, .string tx, .int .i64 vl] 34))))
          have hz5 : w2.heap.size < (w2.alloc (.cells #[.int .i64 kd, .int .i64 m, .string tx, .int .i64 vl] 34)).heap.size := by simp
          have HB4 := Lib.hid (HB2.out.alloc hz (.cells #[.int .i64 kd, .int .i64 m, .string tx, .int .i64 vl] 34))
          have HO5 := Lib.hid (ownsRow_below hown.out HB4.out (Nat.le_refl _))
          have HB5 := Lib.hid (hB.out.trans (HB4.out.mono hB.out.size))
          generalize w2.alloc (.cells #[.int .i64 kd, .int .i64 m, .string tx, .int .i64 vl] 34) = W5 at *
          have hc := fun j => cell_of_row W5 w2.heap.size j _ _ _ HH5.out
          have c0 := hc 0
          have c1 := hc 1
          have c2 := hc 2
          have c3 := hc 3
          simp at c0 c1 c2 c3
          clear hc
          have c2' := Lib.hid c2
          obtain ⟨i0, hi, hz0, hz1, hz2⟩ := info_parts info34
          have hbase : w.heap.size ≤ W5.heap.size := HB5.out.size
          go_wp2_with (at_builtin; go_must (refine wpList_append_own _ rfl (.tmp 42) (.tmp 44) 23 rfl w.heap.size 34 i0 _ 4 40 Tryd.underlying23 hi hz0 hz1 hz2 rfl (by decide) _ acc.length (cellsOf acc) rfl (HO5.out.alloc _) ⟨W5.heap.size, 0, none⟩ 1 1 [.int .i64 kd, .int .i64 m, .string tx, .int .i64 vl] rfl rfl ?_ ?_ ?_ ?_ ?_ ?_))
          · exact cells_new _ _ _ _
          · intro u hu; simp at hu; rcases hu with rfl | rfl | rfl | rfl <;> rfl
          · unfold maxLen; have := hal.out; omega
          · have := hal.out; omega
          · simp; omega
          intro v' w' hown' hgrow hnil
          have g2 := hgrow.cell (a := ⟨w2.heap.size, 2, none⟩) (v := .string tx) (by rw [(below_new _).cell (p := ⟨w2.heap.size, 2, none⟩) hz5]; exact c2'.out) (own_ge hown.out hz)
          have HBB := Lib.hid ((HB5.out.alloc hbase (.cells #[.int .i64 kd, .int .i64 m, .string tx, .int .i64 vl] 34)).grown hgrow (by simp; omega) (fun q hq => (hown.out.lt q hq).1))
          have HW := Lib.hid hown'
          clear hgrow hown' hnil c0 c1 c2 c3 hbase
          go_wp2_with fail
          refine ⟨⟨m + tx.size, acc ++ [⟨kd, m, R.take tx.size, vl⟩], by omega, by go_num, ?_, ?_, HBB.out, HG⟩, by simp [intOf]; omega⟩
          · show _ ≤ _; have := hal.out; simp; omega
          · show World.ownsRow _ _ _ _ _ _ _
            have e1 := HW.out
            rw [cellsOf_snoc, List.length_append]
            unfold cells4
            rw [← HTX.out]
            exact e1
        · have hM := rmakesBad (s.extract m s.size) hsz hp (by rw [hdr]; exact he)
          rw [hdr] at hM
          have hG2 := hG1.trans (by rw [step_bad hRne hspR hnote he, pre_bad])
          obtain ⟨er, her⟩ : ∃ er, (tokR R).err = er := ⟨_, rfl⟩
          rw [her] at hM hG2 he
          have hne : (er != 0) = true := by rw [bne_iff_ne]; exact he
          have HM := Lib.hid hM
          have HG := Lib.hid hG2
          clear hM hG2 her he hRdrop hdr hRne hspR hnote hG hG1 hRR hlex hnext hml
          go_wp2_with fail
          refine (HM.out _).mono ?_
          rintro e w2 ⟨⟨kd, vl, tx, rfl⟩, hb2⟩
          have HB2 := Lib.hid hb2
          have hz := hb2.size
          clear hb2
          go_wp2_with fail
          go_ret3
          exact ⟨hB.out.trans ((HB2.out.alloc hz _).mono hB.out.size), by rw [HG.out]; exact rfl⟩
      · have hms : m = s.size := by omega
        have HG : Hid (lexG s.data.toList 0 = .ok acc) := by
          show _ = _
          rw [hG1, List.drop_eq_nil_of_le (by simp; omega), lexG_nil]; simp [Res.pre]
        clear hlex hnext hml hG1 hG
        go_wp2_with fail
        go_ret3
        exact ⟨hB.out, by rw [HG.out]; exact ⟨_, rfl, hown.out⟩⟩
    · have HG := Lib.hid ((hG.out).trans (by rw [hlex, pre_bad]))
      clear hlex hG
      go_wp2_with fail
      go_ret3
      exact ⟨hB.out, by rw [HG.out]; exact rfl⟩
theorem rTokens_any (s : ByteArray) (w : World) : Calls Tryd.prog 13 #[.string s] w (TokPost w (tokensR s.data.toList)) := by
  by_cases h : 20000 < s.size
  · exact rTokens_long s w h
  · have : tokensR s.data.toList = lexG s.data.toList 0 := by unfold tokensR; rw [if_neg (by simpa using h)]
    rw [this]
    exact rTokens_short s w (by omega)
end Go.Proofs.YthbhlmkgbinegaaDoor
