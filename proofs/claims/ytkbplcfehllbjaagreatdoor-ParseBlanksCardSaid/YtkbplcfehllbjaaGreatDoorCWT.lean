/- lex.Text. -/
import Derived.Test.YtkbplcfehllbjaaGreatDoorCWB
namespace Go.Proofs.YtkbplcfehllbjaaGreatDoor
open Go.RowKit
def txtTail (l : List T4) : List UInt8 := l.flatMap fun t => 32 :: t.text
def txt (l : List T4) : List UInt8 := (txtTail l).drop 1
theorem txtTail_snoc (l : List T4) (t : T4) : txtTail (l ++ [t]) = txtTail l ++ 32 :: t.text := by simp [txtTail]
theorem txt_snoc (l : List T4) (t : T4) (h : l ≠ []) : txt (l ++ [t]) = txt l ++ 32 :: t.text := by
  unfold txt
  rw [txtTail_snoc]
  cases l with
  | nil => exact absurd rfl h
  | cons a r => simp [txtTail]
theorem txt_one (t : T4) : txt ([] ++ [t]) = t.text := by simp [txt, txtTail]
theorem txt_take (l : List T4) (k : Nat) (hk : k < l.length) : txt (l.take (k + 1)) = if k = 0 then (l[k]).text else txt (l.take k) ++ 32 :: (l[k]).text := by
  rw [List.take_succ_eq_append_getElem hk]
  by_cases h : k = 0
  · subst h; rw [if_pos rfl]; exact txt_one _
  · rw [if_neg h, txt_snoc]; intro e; have := congrArg List.length e; rw [List.length_take, Nat.min_eq_left (by omega)] at this; exact h this
theorem txt_mono (l : List T4) (k : Nat) : (txt (l.take k)).length ≤ (txt l).length := by
  have h : txtTail l = txtTail (l.take k) ++ txtTail (l.drop k) := by
    unfold txtTail; rw [← List.flatMap_append, List.take_append_drop]
  unfold txt
  rw [h]; simp; omega
theorem bld_alloc {T e : TypeId} {B b : Nat} {bs : List Value} {w : World} (h : Lib.IsBuilder T e B b bs w) (o : Obj) : Lib.IsBuilder T e B b bs (w.alloc o) := by
  have key : ∀ p, Lib.BuilderAt T e B b p bs w → Lib.BuilderAt T e B b p bs (w.alloc o) := by
    intro p h
    have hlt := h.lt
    obtain ⟨hB, v, hb, hown, hne⟩ := h
    exact ⟨hB, v, by rw [Lib.alloc_old w o b hlt]; exact hb, hown.alloc o, hne⟩
  rcases h with h | h
  · exact Or.inl (key _ h)
  · exact Or.inr (key _ h)
theorem Lib.IsBuilder.lt' {T e : TypeId} {B b : Nat} {bs : List Value} {w : World} (h : Lib.IsBuilder T e B b bs w) : b < w.heap.size := by
  rcases h with h | h <;> exact h.lt
/-- a slice of tokens, wherever its cells lie: their texts are known. -/
def Toks (w : World) (v : Value) (l : List T4) : Prop :=
  ∃ a cap, v = .slice a l.length cap ∧ (l ≠ [] → ∃ g off, a = some ⟨g, off, none⟩ ∧ g < w.heap.size ∧ ∀ k (hk : k < l.length), ∃ kd ps vl : Int, w.cell? ⟨g, off + k * 4, none⟩ = some (.int .i64 kd) ∧ w.cell? ⟨g, off + k * 4 + 1, none⟩ = some (.int .i64 ps) ∧ w.cell? ⟨g, off + k * 4 + 2, none⟩ = some (.string ⟨(l[k]).text.toArray⟩) ∧ w.cell? ⟨g, off + k * 4 + 3, none⟩ = some (.int .i64 vl))
theorem Row.toks {w : World} {v : Value} {l : List T4} (h : Row w v l) : Toks w v l := by
  obtain ⟨a, cap, hv, hc⟩ := h
  refine ⟨a, cap, hv, fun hl => ?_⟩
  obtain ⟨g, ha, hg, hcell⟩ := hc hl
  refine ⟨g, 0, ha, hg, fun k hk => ?_⟩
  obtain ⟨p0, p1, p2, p3⟩ := cellsOf_get l k hk
  rw [Nat.zero_add]
  exact ⟨_, _, _, (hcell _ (by omega)).trans p0, (hcell _ (by omega)).trans p1, (hcell _ (by omega)).trans p2, (hcell _ (by omega)).trans p3⟩
theorem Toks.below {w w' : World} {v : Value} {l : List T4} (h : Toks w v l) (b : Below w.heap.size w w') : Toks w' v l := by
  obtain ⟨a, cap, hv, hc⟩ := h
  refine ⟨a, cap, hv, fun hl => ?_⟩
  obtain ⟨g, off, ha, hg, hcell⟩ := hc hl
  refine ⟨g, off, ha, Nat.lt_of_lt_of_le hg b.size, fun k hk => ?_⟩
  obtain ⟨kd, ps, vl, p0, p1, p2, p3⟩ := hcell k hk
  exact ⟨kd, ps, vl, (b.cell (p := ⟨g, off + k * 4, none⟩) hg).trans p0, (b.cell (p := ⟨g, off + k * 4 + 1, none⟩) hg).trans p1, (b.cell (p := ⟨g, off + k * 4 + 2, none⟩) hg).trans p2, (b.cell (p := ⟨g, off + k * 4 + 3, none⟩) hg).trans p3⟩
set_option maxRecDepth 100000 in
set_option maxHeartbeats 4000000 in
theorem text_any (v : Value) (l : List T4) (w : World) (hv : Toks w v l) (hl : l.length ≤ 100000000) (hlen : (txt l).length ≤ 100000000) :
    Calls Tryz.prog 15 #[v] w fun e w' => e = .returned (.string ⟨(txt l).toArray⟩) ∧ Below w.heap.size w w' := by
  obtain ⟨a, cap, rfl, hc⟩ := hv
  have HC := Lib.hid hc
  have HL := Lib.hid hlen
  clear hc hlen
  go_enter Tryz.func15, Tryz.ntmps15
  go_wp2_with fail
  go_loopw [8] (fun i wr => ∃ k : Nat, k ≤ l.length ∧ i = .int .i64 k ∧ Hid (Lib.IsBuilder 60 5 w.heap.size w.heap.size (Lib.byteCells (txt (l.take k))) wr) ∧ Hid (Below w.heap.size w wr)) (fun i _ => l.length - (intOf i).toNat)
  case atStart => exact ⟨0, Nat.zero_le _, rfl, Lib.fresh_isBuilder 60 5 w, below_new _⟩
  case round =>
    obtain ⟨k, hk, rfl, hb, hB⟩ := hrel
    by_cases hlt : k < l.length
    · obtain ⟨g, off, rfl, hg, hcell⟩ := HC.out (by intro e; rw [e] at hlt; simp at hlt)
      obtain ⟨kd, ps, vl, p0, p1, p2, p3⟩ := hcell k hlt
      have htk := txt_take l k hlt
      have hmono := txt_mono l (k + 1)
      have hlim := HL.out
      generalize l[k].text = tl at *
      obtain ⟨tx, htx⟩ : ∃ tx : ByteArray, ⟨tl.toArray⟩ = tx := ⟨_, rfl⟩
      have htl : tl = tx.data.toList := by rw [← htx]
      rw [htx] at p2
      have c0 : wr.cell? ⟨g, off + k * 4, none⟩ = some (.int .i64 kd) := (hB.out.cell (p := ⟨g, off + k * 4, none⟩) hg).trans p0
      have c1 : wr.cell? ⟨g, off + k * 4 + 1, none⟩ = some (.int .i64 ps) := (hB.out.cell (p := ⟨g, off + k * 4 + 1, none⟩) hg).trans p1
      have c2 : wr.cell? ⟨g, off + k * 4 + 2, none⟩ = some (.string tx) := (hB.out.cell (p := ⟨g, off + k * 4 + 2, none⟩) hg).trans p2
      have c3 : wr.cell? ⟨g, off + k * 4 + 3, none⟩ = some (.int .i64 vl) := (hB.out.cell (p := ⟨g, off + k * 4 + 3, none⟩) hg).trans p3
      have hlt' : (k : Int) < l.length := by omega
      have HTK := Lib.hid htk
      have hz := hB.out.size
      have HBA := Lib.hid (hB.out.alloc hz (.cells #[.int .i64 kd, .int .i64 ps, .string tx, .int .i64 vl] 49))
      have HTL := Lib.hid htl
      clear htk hcell p0 p1 p2 p3 htx
      by_cases h0 : k = 0
      · have e1 : txt (l.take (k + 1)) = tx.data.toList := by rw [HTK.out, if_pos h0]; exact HTL.out
        have e0 : Lib.byteCells (txt (l.take k)) = [] := by rw [h0]; rfl
        have hb0 : Lib.IsBuilder 60 5 w.heap.size w.heap.size [] wr := by have := hb.out; rwa [e0] at this
        have E1 := Lib.hid e1
        have hts : tx.size ≤ 100000000 := by
          have : (txt (l.take (k + 1))).length = tx.size := by rw [e1]; simp
          omega
        have HW := Lib.hid (writeString_any w.heap.size w.heap.size [] tx _ (bld_alloc hb0 (.cells #[.int .i64 kd, .int .i64 ps, .string tx, .int .i64 vl] 49)) (by simp; omega) HBA.out.size)
        have hk0 : k ≤ 0 := by omega
        clear e1 e0 hb0 htl hmono hlim h0
        go_wp2_with fail
        refine HW.out.mono ?_
        rintro e w2 ⟨rfl, h2, hb2, hk2⟩
        have H2 := Lib.hid h2
        have HB2 := Lib.hid (HBA.out.trans hb2)
        clear h2 hb2
        go_wp2_with fail
        refine ⟨⟨k + 1, by omega, by go_num, ?_, HB2.out⟩, by simp [intOf]; omega⟩
        show Lib.IsBuilder _ _ _ _ _ _
        rw [E1.out]
        exact Or.inr H2.out
      · have hk0 : 0 < k := by omega
        have e1 : txt (l.take (k + 1)) = txt (l.take k) ++ 32 :: tx.data.toList := by rw [HTK.out, if_neg h0, HTL.out]
        have E1 := Lib.hid e1
        have hts : (txt (l.take k)).length + 1 + tx.size ≤ 100000000 := by
          have := congrArg List.length e1
          simp at this
          omega
        obtain ⟨T, hT⟩ : ∃ T, txt (l.take k) = T := ⟨_, rfl⟩
        rw [hT] at hts
        have HT := Lib.hid hT
        have hbT : Lib.IsBuilder 60 5 w.heap.size w.heap.size (Lib.byteCells T) wr := by have := hb.out; rwa [hT] at this
        have HW := Lib.hid (writeByte_any w.heap.size w.heap.size (Lib.byteCells T) 32 _ (bld_alloc hbT (.cells #[.int .i64 kd, .int .i64 ps, .string tx, .int .i64 vl] 49)) (by rw [Lib.byteCells_length]; omega) HBA.out.size)
        clear e1 htl hmono hlim h0 hT hbT
        go_wp2_with fail
        refine HW.out.mono ?_
        rintro e w2 ⟨rfl, h2, hb2, hk2⟩
        have hbk := hk2 wr.heap.size _ (new_heap (Below.refl _ _)) (by have := (Lib.IsBuilder.lt' hb.out); intro e; have := Option.some.inj e; omega) (by intro c fz e; cases e)
        have c2' : w2.cell? ⟨wr.heap.size, 2, none⟩ = some (.string tx) := by rw [cell_of_row w2 wr.heap.size 2 _ _ _ hbk]; rfl
        have HB2 := Lib.hid (HBA.out.trans hb2)
        have HW2 := Lib.hid (writeString_any w.heap.size w.heap.size (Lib.byteCells T ++ [.int .u8 32]) tx w2 (Or.inr h2) (by rw [List.length_append, Lib.byteCells_length]; simp; omega) HB2.out.size)
        clear h2 hb2 hbk hk2
        go_wp2_with fail
        refine HW2.out.mono ?_
        rintro e w3 ⟨rfl, h3, hb3, _⟩
        have H3 := Lib.hid h3
        have HB3 := Lib.hid (HB2.out.trans hb3)
        clear h3 hb3
        go_wp2_with fail
        refine ⟨⟨k + 1, by omega, by go_num, ?_, HB3.out⟩, by simp [intOf]; omega⟩
        show Lib.IsBuilder _ _ _ _ _ _
        have e2 : Lib.byteCells (txt (l.take (k + 1))) = Lib.byteCells T ++ [.int .u8 32] ++ Lib.strCells tx := by
          rw [E1.out, HT.out]; simp [Lib.byteCells, Lib.strCells]
        rw [e2]
        exact Or.inr H3.out
    · have hke : k = l.length := by omega
      have HK : Hid (l.take k = l) := by show _ = _; rw [hke, List.take_length]
      clear hke
      go_wp2_with fail
      have hB2 := hb.out
      rw [HK.out] at hB2
      refine (Tryz.Builder_String_any w.heap.size w.heap.size (txt l) _ hB2 hB.out.size).mono ?_
      rintro e w2 ⟨rfl, hb2⟩
      have HB2 := Lib.hid (hB.out.trans hb2)
      clear hb2 hB2
      go_wp2_with fail
      go_ret
      exact ⟨rfl, HB2.out⟩
end Go.Proofs.YtkbplcfehllbjaaGreatDoor
