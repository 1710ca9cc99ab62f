/- mem: copy of bytes, as a law of the walk. -/
import Derived.Test.YtblhnjoophhliaaM8
namespace Go.Proofs.Ytblhnjoophhliaa
open Go.RowKit
theorem flat_take {α : Type} {C : α → Array Value} {m : Nat} (hm : ∀ x, (C x).size = m) (l : List α) (o : Nat) (ho : o ≤ l.length) : (flatC C l).take (o * m) = flatC C (l.take o) := by
  conv => lhs; rw [← List.take_append_drop o l]
  have hl : (flatC C (l.take o)).length = o * m := by rw [flat_len hm, List.length_take, Nat.min_eq_left ho]
  rw [flat_app, ← hl, List.take_left']
  rfl
theorem flat_drop {α : Type} {C : α → Array Value} {m : Nat} (hm : ∀ x, (C x).size = m) (l : List α) (o : Nat) (ho : o ≤ l.length) : (flatC C l).drop (o * m) = flatC C (l.drop o) := by
  conv => lhs; rw [← List.take_append_drop o l]
  have hl : (flatC C (l.take o)).length = o * m := by rw [flat_len hm, List.length_take, Nat.min_eq_left ho]
  rw [flat_app, ← hl, List.drop_left']
  rfl
theorem flat_splice {M l : List Byt} {o : Nat} (h : o + l.length ≤ M.length) : flatC bytC (splice M o l) = (flatC bytC M).take (o * 5) ++ flatC bytC l ++ (flatC bytC M).drop (o * 5 + (flatC bytC l).length) := by
  rw [flat_len bytC_size, ← Nat.add_mul, flat_take bytC_size _ _ (by omega), flat_drop bytC_size _ _ h]
  unfold splice
  rw [flat_app, flat_app, List.append_assoc]
theorem run_copy_cells {P : Program} (w : World) (dT sT ty elem : TypeId) (size g o dLen dCap : Nat) (a : Addr) (sLen sCap : Nat) (cur : Array Value) (t : TypeId) (cs : List Value)
    (hu : P.underlying dT = some (.slice elem)) (hs : (P.info? elem).map (·.size) = some size)
    (hg : w.heap[g]? = some (.cells cur t (0, 0))) (hn : cs.length = Nat.min sLen dLen * size)
    (hsrc : ∀ j v, cs[j]? = some v → w.cell? (a.add j) = some v) (hfit : o + cs.length ≤ cur.size) (h1 : ∀ v ∈ cs, v.oneCell' = true) :
    (Builtin.copy_ #[dT, sT] ty #[.slice (some ⟨g, o, none⟩) dLen dCap, .slice (some a) sLen sCap]).run P w =
      .ok (goInt (Nat.min sLen dLen)) (w.setRow g (cur.toList.take o ++ cs ++ cur.toList.drop (o + cs.length)).toArray) := by
  have hl := run_loadCells_list (P := P) w a cs hsrc
  have hst := run_storeCells_at P g o t cs 0 cur w hg (by simpa using hfit) h1
  cases hq : P.info? elem with
  | none => simp [hq] at hs
  | some i =>
    have hi : i.size = size := by simpa [hq] using hs
    simp [Builtin.copy_, run_underlying hu, Builtin.lenOf, Builtin.firstCells, sizeOf, typeInfo, hq, hi, ← hn, hl, hst]
theorem BytesAt.src {w : World} {g o n : Nat} {M : List Byt} (h : BytesAt w g M) (hn : o + n ≤ M.length) : ∀ j v, (flatC bytC (segL M o n))[j]? = some v → w.cell? ((⟨g, o * 5, none⟩ : Addr).add j) = some v := by
  intro j v hv
  rw [show (⟨g, o * 5, none⟩ : Addr).add j = ⟨g, o * 5 + j, none⟩ by unfold Addr.add; split <;> simp_all, h.cell]
  have hj : j < (segL M o n).length * 5 := by have := (List.getElem?_eq_some_iff.1 hv).1; rwa [flat_len bytC_size] at this
  have e : flatC bytC (segL M o n) = ((flatC bytC M).drop (o * 5)).take (n * 5) := by
    unfold segL
    rw [flat_drop bytC_size _ _ (by omega), flat_take bytC_size _ _ (by rw [List.length_drop]; omega)]
  rw [e, List.getElem?_take] at hv
  split at hv
  · rwa [List.getElem?_drop] at hv
  · cases hv
theorem BytesAt.row {w : World} {g o : Nat} {M l : List Byt} (h : BytesAt w g M) (hl : o + l.length ≤ M.length) :
    BytesAt (w.setRow g ((flatC bytC M).toArray.toList.take (o * 5) ++ flatC bytC l ++ (flatC bytC M).toArray.toList.drop (o * 5 + (flatC bytC l).length)).toArray) g (splice M o l) := by
  unfold BytesAt
  rw [flat_splice hl]
  exact setRow_heap w g _ _ _ _ h
theorem gr_row (w : World) (g : Nat) (cs : Array Value) : w.grownBy (w.setRow g cs) (some g) := ⟨rfl, rfl, rfl, by simp, fun k _ hn => setRow_other w g k cs (fun e => hn (by rw [e]))⟩
theorem sizeByte : (Try.prog.info? 67).map (·.size) = some 5 := by kernel_rfl
/-- copy of n bytes into n bytes, at the call. -/
theorem wpList_copy_bytes {w : World} {ops : Array Oper} {rest : List Oper} {oo : Oper} {a : Act} {Q : Exit → Act → World → Prop} (hgd : oo.guard = none) (d s : Operand)
    (ho : oo.op = .call { callee := .builtin .copy, args := #[d, s], argTypes := #[55, 55] })
    (g o g' o' n dc sc : Nat) (hd : a.eval d = .slice (some ⟨g, o * 5, none⟩) n dc) (hs : a.eval s = .slice (some ⟨g', o' * 5, none⟩) n sc)
    (M M' : List Byt) (hM : BytesAt w g M) (hM' : BytesAt w g' M') (hn : o + n ≤ M.length) (hn' : o' + n ≤ M'.length)
    (h : ∀ w', Hid (BytesAt w' g (splice M o (segL M' o' n))) → Hid (w.grownBy w' (some g)) → wpList Try.prog ops Q rest (a.put oo.dst (goInt n)) w') :
    wpList Try.prog ops Q (oo :: rest) a w := by
  refine wpList_plain hgd fun K hK => ?_
  have hl := seg_len hn'
  have hrun := run_copy_cells (P := Try.prog) w 55 55 oo.type 67 5 g (o * 5) n dc ⟨g', o' * 5, none⟩ n sc (flatC bytC M).toArray 67 (flatC bytC (segL M' o' n)) Try.underlying55 sizeByte hM (by rw [flat_len bytC_size, hl, show Nat.min n n = n from Nat.min_self n]) (hM'.src hn') (by rw [flat_len bytC_size, hl]; simp [flat_len bytC_size]; omega) (flat_one bytC_one _)
  rw [show Nat.min n n = n from Nat.min_self n] at hrun
  unfold Oper.wp
  simp only [execOp, ho, resolve, invoke, builtin, Sem.run_bind, Sem.run_pure, Result.andThen_ok, List.map_toArray, List.map_cons, List.map_nil, hd, hs, hrun]
  exact hK _ _ (h _ (hM.row (by rw [hl]; exact hn)) (gr_row _ _ _))

/-- What Copy and Fill answer, and the blocks behind them. -/
def copyP (L : List (Nat × Blk)) (to fr : Val) (n : Int) : List (Nat × Blk) × Int :=
  if lenB n = false then (L, 9) else
  match cutI L to n, cutI L fr n with
  | some k, some j => match L[k]?, L[j]? with
    | some x, some y => (L.set k (putB x (splice x.2.bytes to.n.toNat (segL y.2.bytes fr.n.toNat n.toNat))), 0)
    | _, _ => (L, 9)
  | _, _ => (L, 9)
def fillP (L : List (Nat × Blk)) (p v n : Val) : List (Nat × Blk) × Int :=
  if numB v = false ∨ numB n = false ∨ lenB n.n = false then (L, 9) else
  match cutI L p n.n with
  | some k => match L[k]? with
    | some x => (L.set k (putB x (splice x.2.bytes p.n.toNat (nums (v.n % 256) n.n.toNat))), 0)
    | none => (L, 9)
  | none => (L, 9)
theorem lenB_true {n : Int} (h : lenB n = true) : ∃ m : Nat, n = m ∧ m ≤ 4096 := by
  unfold lenB at h
  have h := of_decide_eq_true h
  exact ⟨n.toNat, by omega, by omega⟩
theorem cut_in {L : List (Nat × Blk)} {p : Val} {n k : Nat} (hc : cutI L p n = some k) : ∃ x, L[k]? = some x ∧ p.n.toNat + n ≤ x.2.bytes.length := by
  obtain ⟨hf, hp, x, hx, hv, hw⟩ := cutI_some hc
  obtain ⟨o, ho, hon⟩ := witB_nat hw
  rw [ho]
  exact ⟨x, hx, by simpa using hon⟩
theorem splice_zero {o o' : Nat} {M l : List Byt} (hl : l.length = 0) : splice M o l = splice M o' l := by
  obtain rfl := List.eq_nil_of_length_eq_zero hl
  rw [splice_nil, splice_nil]
/-- Two boxed arguments. -/
theorem P2.two (w : World) (p q : Val) : P2 w p q ((w.alloc (.cells (valC p) 29)).alloc (.cells (valC q) 29)) := P2.new w p.n p.b p.f q.n q.b q.f
set_option maxRecDepth 100000 in
set_option maxHeartbeats 4000000 in
theorem copy_len (m : Value) (p q : Val) (n : Int) (w : World) (hn : lenB n = false) :
    Calls Try.prog 21 #[m, valV p, valV q, .int .i64 n] w fun e w' => e = .returned (.int .i64 9) ∧ w.grownBy w' none := by
  have HW := Lib.hid hn
  obtain ⟨pn, pb, pf⟩ := p
  obtain ⟨vn, vb, vf⟩ := q
  unfold valV valC
  dsimp only
  clear hn
  go_enter Try.func21, Try.ntmps21
  go_wp2_with fail
  refine (isLength_any _ _).mono ?_
  rintro e w0 ⟨rfl, rfl⟩
  rw [HW.out]
  go_wp2_with fail
  go_ret
  exact ⟨rfl, by repeat (first | with_reducible exact grownBy_refl _ _ | with_reducible assumption | with_reducible refine World.grownBy.gr_drew ?_ | with_reducible refine World.grownBy.gr_set ?_ (by simp) _ | with_reducible refine gr_alloc ?_ _)⟩
set_option maxRecDepth 100000 in
set_option maxHeartbeats 4000000 in
theorem copy_no {B a : Nat} {row : Value} {L : List (Nat × Blk)} (p q : Val) (n : Nat) (w : World) (h : MemAt w B a row L) (hl : lenB n = true) (hn : n ≤ 4096) (hc : cutI L p n = none ∨ cutI L q n = none) :
    Calls Try.prog 21 #[.pointer (some ⟨a, 0, none⟩), valV p, valV q, .int .i64 n] w fun e w' => e = .returned (.int .i64 9) ∧ w.grownBy w' none := by
  have HW := Lib.hid hl
  have HC1 := Lib.hid (show ∀ W, MemAt W B a row L → Calls Try.prog 36 #[.pointer (some ⟨a, 0, none⟩), valV p, .int .i64 n] W fun e w' => (∃ v, e = .returned (.tuple #[v, .bool (cutI L p n).isSome])) ∧ W.grownBy w' none from fun W hW => by
    rcases h1 : cutI L p n with _ | k
    · exact (cut_no p n W hW h1).mono fun e w' hh => ⟨⟨_, hh.1⟩, hh.2⟩
    · obtain ⟨x, hx, _⟩ := cut_in h1
      exact (cut_yes p n k W hW h1 hn hx).mono fun e w' ⟨o, h1, _, _, h4⟩ => ⟨⟨_, h1⟩, h4⟩)
  have HC2 := Lib.hid (show ∀ W, MemAt W B a row L → Calls Try.prog 36 #[.pointer (some ⟨a, 0, none⟩), valV q, .int .i64 n] W fun e w' => (∃ v, e = .returned (.tuple #[v, .bool (cutI L q n).isSome])) ∧ W.grownBy w' none from fun W hW => by
    rcases h1 : cutI L q n with _ | k
    · exact (cut_no q n W hW h1).mono fun e w' hh => ⟨⟨_, hh.1⟩, hh.2⟩
    · obtain ⟨x, hx, _⟩ := cut_in h1
      exact (cut_yes q n k W hW h1 hn hx).mono fun e w' ⟨o, h1, _, _, h4⟩ => ⟨⟨_, h1⟩, h4⟩)
  have HM := Lib.hid h
  have HCC := Lib.hid (show (cutI L p n).isSome = false ∨ (cutI L q n).isSome = false from hc.imp (fun h => by rw [h]; rfl) (fun h => by rw [h]; rfl))
  generalize (cutI L p n).isSome = c1 at *
  generalize (cutI L q n).isSome = c2 at *
  obtain ⟨pn, pb, pf⟩ := p
  obtain ⟨vn, vb, vf⟩ := q
  unfold valV valC at *
  dsimp only at *
  have HV0 := Lib.hid (P2.new w pn pb pf vn vb vf)
  clear h hl hc
  go_enter Try.func21, Try.ntmps21
  go_wp2_with fail
  refine (isLength_any _ _).mono ?_
  rintro e w0 ⟨rfl, rfl⟩
  rw [HW.out]
  go_wp2_with fail
  refine (HC1.out _ (HM.out.gr (by repeat (first | with_reducible exact grownBy_refl _ _ | with_reducible assumption | with_reducible refine World.grownBy.gr_drew ?_ | with_reducible refine World.grownBy.gr_set ?_ (by simp) _ | with_reducible refine gr_alloc ?_ _)))).mono ?_
  rintro e w1 ⟨⟨v1, rfl⟩, g1⟩
  have HV1 := Lib.hid (HV0.out.grown g1)
  clear g1
  obtain ⟨x0, x1, x2, f0, f1, f2⟩ := P2.r1 HV1.out
  go_wp2_with fail
  refine (HC2.out _ (HM.out.gr HV1.out.gr)).mono ?_
  rintro e w2 ⟨⟨v2, rfl⟩, g2⟩
  have HV2 := Lib.hid (HV1.out.grown g2)
  clear g2 x0 x1 x2 f0 f1 f2 HV1
  cases c1
  · go_wp2_with fail
    go_ret
    exact ⟨rfl, HV2.out.gr⟩
  · obtain rfl : c2 = false := HCC.out.resolve_left (by simp)
    go_wp2_with fail
    go_ret
    exact ⟨rfl, HV2.out.gr⟩
set_option maxRecDepth 100000 in
set_option maxHeartbeats 4000000 in
theorem copy_yes {B a : Nat} {row : Value} {L : List (Nat × Blk)} (p q : Val) (n k j : Nat) (w : World) (h : MemAt w B a row L) (hl : lenB n = true) (hn : n ≤ 4096) (hc1 : cutI L p n = some k) (hc2 : cutI L q n = some j) {x y : Nat × Blk} (hx : L[k]? = some x) (hy : L[j]? = some y) :
    Calls Try.prog 21 #[.pointer (some ⟨a, 0, none⟩), valV p, valV q, .int .i64 n] w fun e w' => e = .returned (.int .i64 0) ∧ BytesAt w' x.1 (splice x.2.bytes p.n.toNat (segL y.2.bytes q.n.toNat n)) ∧ w.grownBy w' (some x.1) := by
  have HW := Lib.hid hl
  have HC1 := Lib.hid (fun W (hW : MemAt W B a row L) => cut_yes p n k W hW hc1 hn hx)
  have HC2 := Lib.hid (fun W (hW : MemAt W B a row L) => cut_yes q n j W hW hc2 hn hy)
  have HM := Lib.hid h
  have HX := Lib.hid (List.mem_of_getElem? hx)
  have HY := Lib.hid (List.mem_of_getElem? hy)
  have HPI := Lib.hid (cut_in hc1)
  obtain ⟨pn, pb, pf⟩ := p
  obtain ⟨vn, vb, vf⟩ := q
  unfold valV valC at *
  dsimp only at *
  have HV0 := Lib.hid (P2.new w pn pb pf vn vb vf)
  clear h hl hc1 hc2 hx hy
  go_enter Try.func21, Try.ntmps21
  go_wp2_with fail
  refine (isLength_any _ _).mono ?_
  rintro e w0 ⟨rfl, rfl⟩
  rw [HW.out]
  go_wp2_with fail
  refine (HC1.out _ (HM.out.gr (by repeat (first | with_reducible exact grownBy_refl _ _ | with_reducible assumption | with_reducible refine World.grownBy.gr_drew ?_ | with_reducible refine World.grownBy.gr_set ?_ (by simp) _ | with_reducible refine gr_alloc ?_ _)))).mono ?_
  rintro e w1 ⟨o, rfl, ho, hpo, g1⟩
  have HV1 := Lib.hid (HV0.out.grown g1)
  clear g1
  obtain ⟨x0, x1, x2, f0, f1, f2⟩ := P2.r1 HV1.out
  go_wp2_with fail
  refine (HC2.out _ (HM.out.gr HV1.out.gr)).mono ?_
  rintro e w2 ⟨o', rfl, ho', hpo', g2⟩
  have HV2 := Lib.hid (HV1.out.grown g2)
  have HM2 := Lib.hid (HM.out.gr HV2.out.gr)
  clear g2 x0 x1 x2 f0 f1 f2 HV1
  go_wp2_with ((with_reducible refine wpList_copy_bytes rfl (.tmp 36) (.tmp 37) rfl x.1 o y.1 o' n n n rfl rfl x.2.bytes y.2.bytes (HM2.out.bytes x HX.out).1 (HM2.out.bytes y HY.out).1 ho ho' ?_); intro w3 HB3 HG3)
  go_ret
  refine ⟨rfl, ?_, grownBy_trans (gr_to HV2.out.gr) HG3.out⟩
  have hb := HB3.out
  by_cases h0 : 0 < n
  · rw [hpo h0, hpo' h0, Int.toNat_natCast, Int.toNat_natCast]
    exact hb
  · obtain rfl : n = 0 := by omega
    have e : ∀ (M : List Byt) i, segL M i 0 = [] := fun M i => by simp [segL]
    rw [e, splice_nil] at hb ⊢
    exact hb
theorem copy_any {B a : Nat} {row : Value} {L : List (Nat × Blk)} (p q : Val) (n : Int) (w : World) (h : MemAt w B a row L) :
    Calls Try.prog 21 #[.pointer (some ⟨a, 0, none⟩), valV p, valV q, .int .i64 n] w fun e w' => e = .returned (.int .i64 (copyP L p q n).2) ∧ MemAt w' B a row (copyP L p q n).1 ∧ Fr w w' a row L := by
  unfold copyP
  rcases hl : lenB n
  · rw [if_pos rfl]
    exact (copy_len _ p q n w hl).mono fun e w' hh => ⟨hh.1, h.gr hh.2, Fr.of_gr hh.2⟩
  · rw [if_neg (by simp)]
    obtain ⟨m, rfl, hm⟩ := lenB_true hl
    rcases h1 : cutI L p m with _ | k
    · exact (copy_no p q m w h hl hm (.inl h1)).mono fun e w' hh => ⟨hh.1, h.gr hh.2, Fr.of_gr hh.2⟩
    · rcases h2 : cutI L q m with _ | j
      · exact (copy_no p q m w h hl hm (.inr h2)).mono fun e w' hh => ⟨hh.1, h.gr hh.2, Fr.of_gr hh.2⟩
      · obtain ⟨x, hx, hpx⟩ := cut_in h1
        obtain ⟨y, hy, hqy⟩ := cut_in h2
        simp only [hx, hy, Int.toNat_natCast]
        refine (copy_yes p q m k j w h hl hm h1 h2 hx hy).mono fun e w' ⟨he, hB, hg⟩ => ⟨he, ?_, Fr.of_own hg (foot_mem hx)⟩
        exact h.write hx (splice_len _ _ _ (by rw [seg_len hqy]; exact hpx)) (splice_byts (h.bytes x (List.mem_of_getElem? hx)).2.2.2 (seg_byts (h.bytes y (List.mem_of_getElem? hy)).2.2.2 _ _) _) hB hg

end Go.Proofs.Ytblhnjoophhliaa
