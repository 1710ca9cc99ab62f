/- Rows of runs, cell by cell: copy, clear, append in place, overlaps. -/
import Derived.Test.YtpgefmhjhiemkaaJb
import Derived.Laws.CopyRow
import Derived.Lib.Overlaps
import Derived.Lib.AppendZerosOnto
namespace Go.Proofs.Ytpgefmhjhiemkaa
open Go.RowKit
/-- A row known whole: its runs, and what lies behind them. -/
theorem OwS.row {base g n c : Nat} {W : World} {S : List (Int × Int)} (h : OwS base W (.slice (some ⟨g, 0, none⟩) n c) S) :
    ∃ Z, W.heap[g]? = some (.cells (flatC spC S ++ Z).toArray 47 (0, 0)) ∧ Z.length = (c - S.length) * 2 ∧ n = S.length ∧ S.length ≤ c ∧ c ≤ maxLen ∧ base ≤ g := by
  rcases h.2 with ⟨e, _⟩ | ⟨g', cap, cur, e, hb, hh, hn, hc, hs, ht⟩
  · cases e
  · simp only [Value.slice.injEq, Option.some.injEq, Addr.mk.injEq] at e
    obtain ⟨⟨rfl, _, _⟩, rfl, rfl⟩ := e
    refine ⟨cur.toList.drop (S.length * 2), ?_, ?_, rfl, hn, hc, hb⟩
    · rw [hh, ← ht, List.take_append_drop]
    · rw [List.length_drop, Array.length_toList, hs, Nat.sub_mul]
theorem OwS.of_row {base g c : Nat} {W : World} {S : List (Int × Int)} {Z : List Value} (h : W.heap[g]? = some (.cells (flatC spC S ++ Z).toArray 47 (0, 0))) (hZ : Z.length = (c - S.length) * 2) (hc : S.length ≤ c) (hm : c ≤ maxLen) (hb : base ≤ g) :
    OwS base W (.slice (some ⟨g, 0, none⟩) S.length c) S := by
  refine ⟨flat_len spC_size S, .inr ⟨g, c, _, rfl, hb, h, hc, hm, ?_, ?_⟩⟩
  · rw [List.size_toArray, List.length_append, flat_len spC_size, hZ, ← Nat.add_mul]
    congr 1
    omega
  · show ((flatC spC S ++ Z).toArray.toList).take _ = _
    rw [show (flatC spC S ++ Z).toArray.toList = flatC spC S ++ Z from rfl, ← flat_len spC_size S, List.take_left']
    rfl
theorem row_src {W : World} {g k m : Nat} {R cs : List Value} {t : TypeId} {fz : Nat × Nat} (h : W.heap[g]? = some (.cells R.toArray t fz)) (hcs : cs = (R.drop k).take m) : ∀ (j : Nat) (v : Value), cs[j]? = some v → W.cell? ((⟨g, k, none⟩ : Addr).add j) = some v := by
  intro j v hv
  rw [add_none, cell_of_row _ _ _ _ _ _ h]
  rw [hcs, List.getElem?_take] at hv
  split at hv
  · rw [List.getElem?_drop] at hv
    simpa using hv
  · cases hv
theorem sizeSpan : (Try.prog.info? 47).map (·.size) = some 2 := by kernel_rfl
theorem run_copy_spn (w : World) (ty : TypeId) (g o dLen dCap : Nat) (a : Addr) (sLen sCap : Nat) (R cs : List Value)
    (hg : w.heap[g]? = some (.cells R.toArray 47 (0, 0))) (hn : cs.length = Nat.min sLen dLen * 2)
    (hsrc : ∀ (j : Nat) (v : Value), cs[j]? = some v → w.cell? (a.add j) = some v) (hfit : o + cs.length ≤ R.length) (h1 : ∀ v ∈ cs, v.oneCell' = true) :
    (Builtin.copy_ #[42, 42] ty #[.slice (some ⟨g, o, none⟩) dLen dCap, .slice (some a) sLen sCap]).run Try.prog w =
      .ok (goInt (Nat.min sLen dLen)) (w.setRow g (R.take o ++ cs ++ R.drop (o + cs.length)).toArray) := by
  have hl := run_loadCells_list (P := Try.prog) w a cs hsrc
  have hst := run_storeCells_at Try.prog g o 47 cs 0 R.toArray w hg (by simpa using hfit) h1
  have hs := sizeSpan
  cases hq : Try.prog.info? 47 with
  | none => simp [hq] at hs
  | some i =>
    have hi : i.size = 2 := by simpa [hq] using hs
    simp [Builtin.copy_, run_underlying Try.underlying42, Builtin.lenOf, Builtin.firstCells, sizeOf, typeInfo, hq, hi, ← hn, hl, hst]
theorem row_put {w : World} {g : Nat} {R R' : List Value} {t : TypeId} (h : w.heap[g]? = some (.cells R.toArray t (0, 0))) : (w.setRow g R'.toArray).heap[g]? = some (.cells R'.toArray t (0, 0)) ∧ w.grownBy (w.setRow g R'.toArray) (some g) :=
  ⟨setRow_heap w g _ _ t _ h, ⟨rfl, rfl, rfl, by simp, fun k _ hn => setRow_other w g k _ (fun e => hn (by rw [e]))⟩⟩
/-- copy at the call. -/
theorem wpList_copy_spn {w : World} {ops : Array Oper} {rest : List Oper} {oo : Oper} {a : Act} {Q : Exit → Act → World → Prop} (hgd : oo.guard = none) (d s : Operand)
    (ho : oo.op = .call { callee := .builtin .copy, args := #[d, s], argTypes := #[42, 42] })
    (g o dl dc sl sc : Nat) (ad : Addr) (hd : a.eval d = .slice (some ⟨g, o, none⟩) dl dc) (hs : a.eval s = .slice (some ad) sl sc) (R cs : List Value)
    (hg : w.heap[g]? = some (.cells R.toArray 47 (0, 0))) (hn : cs.length = Nat.min sl dl * 2)
    (hsrc : ∀ (j : Nat) (v : Value), cs[j]? = some v → w.cell? (ad.add j) = some v) (hfit : o + cs.length ≤ R.length) (h1 : ∀ v ∈ cs, v.oneCell' = true)
    (h : ∀ w', Hid (w'.heap[g]? = some (.cells (R.take o ++ cs ++ R.drop (o + cs.length)).toArray 47 (0, 0))) → Hid (w.grownBy w' (some g)) → wpList Try.prog ops Q rest (a.put oo.dst (goInt (Nat.min sl dl))) w') :
    wpList Try.prog ops Q (oo :: rest) a w := by
  refine wpList_plain hgd fun K hK => ?_
  have hrun := run_copy_spn w oo.type g o dl dc ad sl sc R cs hg hn hsrc hfit h1
  unfold Oper.wp
  simp only [execOp, ho, resolve, invoke, builtin, Sem.run_bind, Sem.run_pure, Result.andThen_ok, List.map_toArray, List.map_cons, List.map_nil, hd, hs, hrun]
  obtain ⟨k1, k2⟩ := row_put (R' := R.take o ++ cs ++ R.drop (o + cs.length)) hg
  exact hK _ _ (h _ k1 k2)
def zz : List Value := [.int .i64 0, .int .i64 0]
theorem zz_one : ∀ u ∈ zz, u.oneCell' = true := by
  intro u hu
  simp [zz] at hu
  subst hu
  rfl
/-- clear of one run, at the call. -/
theorem wpList_clear_spn {w : World} {ops : Array Oper} {rest : List Oper} {oo : Oper} {a : Act} {Q : Exit → Act → World → Prop} (hgd : oo.guard = none) (d : Operand)
    (ho : oo.op = .call { callee := .builtin .clear, args := #[d], argTypes := #[42] })
    (g o n dc : Nat) (hd : a.eval d = .slice (some ⟨g, o, none⟩) n dc) (hn1 : n = 1) (R : List Value)
    (hg : w.heap[g]? = some (.cells R.toArray 47 (0, 0))) (hfit : o + 2 ≤ R.length)
    (h : ∀ w', Hid (w'.heap[g]? = some (.cells (R.take o ++ zz ++ R.drop (o + 2)).toArray 47 (0, 0))) → Hid (w.grownBy w' (some g)) → wpList Try.prog ops Q rest (a.put oo.dst (.tuple #[])) w') :
    wpList Try.prog ops Q (oo :: rest) a w := by
  subst hn1
  refine wpList_plain hgd fun K hK => ?_
  have hst := run_storeCells_at Try.prog g o 47 zz 0 R.toArray w hg (by simpa [zz] using hfit) zz_one
  have hz : (Builtin.zeroCells #[Value.int .i64 0, .int .i64 0] 1).toList = zz := by
    apply List.ext_getElem
    · simp [Builtin.zeroCells, zz]
    · intro i h1 h2
      have : i < 2 := by simpa [zz] using h2
      rcases (show i = 0 ∨ i = 1 by omega) with rfl | rfl <;> simp [Builtin.zeroCells, zz]
  have hrun : (Builtin.clear_ #[42] oo.type #[.slice (some ⟨g, o, none⟩) 1 dc]).run Try.prog w = .ok (.tuple #[]) (w.setRow g (R.take o ++ zz ++ R.drop (o + 2)).toArray) := by
    simp [Builtin.clear_, run_underlying Try.underlying42, Value.cells, hz, hst, show zz.length = 2 from rfl]
  unfold Oper.wp
  simp only [execOp, ho, resolve, invoke, builtin, Sem.run_bind, Sem.run_pure, Result.andThen_ok, List.map_toArray, List.map_cons, List.map_nil, hd, hrun]
  obtain ⟨k1, k2⟩ := row_put (R' := R.take o ++ zz ++ R.drop (o + 2)) hg
  exact hK _ _ (h _ k1 k2)
/-- append in place, at the call. -/
theorem wpList_room_spn {w : World} {ops : Array Oper} {rest : List Oper} {oo : Oper} {a : Act} {Q : Exit → Act → World → Prop} (hgd : oo.guard = none) (s x : Operand)
    (ho : oo.op = .call { callee := .builtin .append, args := #[s, x], argTypes := #[42, 42] })
    (g l c : Nat) (hs : a.eval s = .slice (some ⟨g, 0, none⟩) l c) (b : Nat) (hx : a.eval x = .slice (some ⟨b, 0, none⟩) 1 1) (p : Int × Int) (fz : Nat × Nat) (hb : w.heap[b]? = some (.cells (spC p) 47 fz)) (R : List Value)
    (hg : w.heap[g]? = some (.cells R.toArray 47 (0, 0))) (hlc : l + 1 ≤ c) (hfit : l * 2 + 2 ≤ R.length)
    (h : ∀ w', Hid (w'.heap[g]? = some (.cells (R.take (l * 2) ++ (spC p).toList ++ R.drop (l * 2 + 2)).toArray 47 (0, 0))) → Hid (w.grownBy w' (some g)) → wpList Try.prog ops Q rest (a.put oo.dst (.slice (some ⟨g, 0, none⟩) (l + 1) c)) w') :
    wpList Try.prog ops Q (oo :: rest) a w := by
  obtain ⟨i0, hi, hz0, hz1, hz2⟩ := info_parts infoSpan
  have hnews : ∀ (j : Nat) (u : Value), (spC p).toList[j]? = some u → w.cell? ((⟨b, 0, none⟩ : Addr).add j) = some u := fun j u hu => by
    rw [add_none, Nat.zero_add, cell_of_row _ _ _ _ _ _ hb, ← Array.getElem?_toList]
    exact hu
  have hrun := run_append_room (P := Try.prog) w 42 oo.type 47 i0 Try.underlying42 hi g l c R.toArray hg ⟨b, 0, none⟩ 1 1 (spC p).toList (by rw [hz1]; rfl) hnews (spC_one p) hlc (by rw [hz1]; exact hfit)
  rw [hz1] at hrun
  refine wpList_plain hgd fun K hK => ?_
  unfold Oper.wp
  simp only [execOp, ho, resolve, invoke, builtin, Sem.run_bind, Sem.run_pure, Result.andThen_ok, List.map_toArray, List.map_cons, List.map_nil, hs, hx, hrun]
  obtain ⟨k1, k2⟩ := row_put (R' := R.take (l * 2) ++ (spC p).toList ++ R.drop (l * 2 + 2)) hg
  exact hK _ _ (h _ k1 k2)
theorem shape_of {w : World} {b : Nat} {cs : Array Value} {t : TypeId} {fz : Nat × Nat} (h : w.heap[b]? = some (.cells cs t fz)) : w.shape? b = some (t, cs.size) := by simp [World.shape?, h]
theorem frz_of {w : World} {b : Nat} {cs : Array Value} {t : TypeId} (h : w.heap[b]? = some (.cells cs t (0, 0))) (o : Nat) : w.frozen? ⟨b, o, none⟩ = false := by simp [World.frozen?, h]
theorem over_apart {w : World} {b g o la ca lb cb : Nat} {p : Int × Int} {R : List Value} (hb : w.heap[b]? = some (.cells (spC p) 47 (0, 0))) (hg : w.heap[g]? = some (.cells R.toArray 47 (0, 0))) (hne : b ≠ g) (hR : R ≠ []) :
    (callFunc 43 #[.slice (some ⟨b, 0, none⟩) la ca, .slice (some ⟨g, o, none⟩) lb cb]).run Try.prog w = .ok (.value (.bool false)) w := by
  rw [run_callFunc_extern Try.func43 (by kernel_rfl) (by kernel_rfl) (by kernel_rfl) (e := Extern.SlicesOverlaps.overlaps #[42, 42] #[4]) (by kernel_rfl),
    Lib.run_overlaps_apart w 42 4 47 Try.underlying42 2 Try.sizeOf47 ⟨b, 0, none⟩ ⟨g, o, none⟩ la ca lb cb hne 47 47 2 R.length (shape_of hb) (shape_of hg) (fun e => hR (List.length_eq_zero_iff.1 e)) (frz_of hb _) (frz_of hb _)]
  rfl

end Go.Proofs.Ytpgefmhjhiemkaa
