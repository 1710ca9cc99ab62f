/- Merged: I14d, I15d, I16d, I17d, I18d, I19d, I20d, I21d, I22d. -/
import Derived.Test.YtajmkdbokdjmeaaGreatMk1
import Derived.Deep.RegionHeld3
import Derived.Deep.DeepCutAuto
/- ir: operand. -/
namespace Go.Proofs.YtajmkdbokdjmeaaGreat
open Go.RowKit
def parOf (p : Prg) (n : Int) : Int := if 0 ≤ n then (p.fns[n.toNat]?.map (·.params)).getD 0 else 0
theorem parOf_in {p : Prg} {k : Nat} (h : k < p.fns.length) : parOf p k = p.fns[k].params := by
  unfold parOf
  rw [if_pos (by omega)]
  simp [h]
def unB (s : ByteArray) : Bool := (s.toList == [45]) || (s.toList == [126])
def widB (x : Int) : Bool := (x == 1) || (x == 4) || (x == 8)
def fnB (p : Prg) (i : Ins) : Bool := inB i.n p.fns.length && (parOf p i.n == (i.args.length : Int))
def opdB (p : Prg) (f : Fun') (i : Ins) (c : Int) : Bool :=
  if c = 115 then kindP p i.b != 0 else if c = 104 then kindP p i.n == 3 else if c = 102 then fnB p i else if c = 54 then decide (i.args.length ≤ 6) else if c = 119 then widB i.w
  else if c = 110 then inB i.n 4097 else if c = 106 then inB i.n f.code.length else if c = 49 then unB i.sign else if c = 50 then betB i.sign else true
section
variable (p : Prg) (f : Fun') (i : Ins) (w : World)
end

end Go.Proofs.YtajmkdbokdjmeaaGreat
/- ir: operands: a row's letters, one by one. -/
namespace Go.Proofs.YtajmkdbokdjmeaaGreat
open Go.RowKit
def letB (p : Prg) (f : Fun') (i : Ins) (c : Int) : Bool := allB f.regs (readL i c) && (opdB p f i c && (!(c == 61) || inB i.a f.regs))
def opsS (p : Prg) (f : Fun') (i : Ins) (l : List UInt8) : Bool := l.all fun c => letB p f i (c.toNat : Int)
def opsB (p : Prg) (f : Fun') (i : Ins) : Bool := opsS p f i (rowL i.op)
theorem readL_len (i : Ins) (c : Int) (h : i.args.length * 8 ≤ 140737488351232) : (readL i c).length ≤ maxLen := by
  unfold maxLen readL
  repeat' split
  all_goals (simp; try omega)
/-- The three boxes. -/
structure OpBox (p : Prg) (f : Fun') (i : Ins) (b : Nat) (w : World) : Prop where
  p : BoxC (prgC p) 25 b w
  f : BoxC (funC f) 39 (b + 1) w
  i : BoxC (insC i) 36 (b + 2) w
theorem OpBox.gr {p : Prg} {f : Fun'} {i : Ins} {b : Nat} {w w' : World} (h : OpBox p f i b w) (g : w.grownBy w' none) : OpBox p f i b w' := ⟨h.p.gr g, h.f.gr g, h.i.gr g⟩
theorem BoxC.to {C : Array Value} {t b : Nat} {w w' : World} (h : BoxC C t b w) (hk : w'.heap[b]? = w.heap[b]?) : BoxC C t b w' := hk.trans h
theorem OpBox.new (p : Prg) (f : Fun') (i : Ins) (w : World) : OpBox p f i w.heap.size (((w.alloc (.cells (prgC p) 25)).alloc (.cells (funC f) 39)).alloc (.cells (insC i) 36)) := by
  refine ⟨((BoxC.new w _ _).gr (gr_alloc (grownBy_refl _ _) _)).gr (gr_alloc (grownBy_refl _ _) _), ?_, ?_⟩
  · have h := (BoxC.new (w.alloc (.cells (prgC p) 25)) (funC f) 39).gr (gr_alloc (grownBy_refl _ _) (.cells (insC i) 36))
    rw [show (w.alloc (.cells (prgC p) 25)).heap.size = w.heap.size + 1 by simp] at h
    exact h
  · have h := BoxC.new ((w.alloc (.cells (prgC p) 25)).alloc (.cells (funC f) 39)) (insC i) 36
    rw [show ((w.alloc (.cells (prgC p) 25)).alloc (.cells (funC f) 39)).heap.size = w.heap.size + 2 by simp] at h
    exact h
def OpRel (p : Prg) (f : Fun') (i : Ins) (s : ByteArray) (w : World) (wr : World) : Prop :=
  ∃ pos, pos ≤ s.size ∧ wr.heap[w.heap.size + 3]? = some (.stringIter s pos) ∧ opsS p f i (s.data.toList.take pos) = true ∧ w.grownBy wr none ∧ OpBox p f i w.heap.size wr
theorem opsS_take (p : Prg) (f : Fun') (i : Ins) (s : ByteArray) (pos : Nat) (h : pos < s.size) : opsS p f i (s.data.toList.take (pos + 1)) = (opsS p f i (s.data.toList.take pos) && letB p f i ((s[pos]'h).toNat : Int)) := by
  have hl : pos < s.data.toList.length := by simpa using h
  rw [List.take_succ_eq_append_getElem hl]
  unfold opsS
  rw [List.all_append]
  simp
  rfl
theorem opsS_no (p : Prg) (f : Fun') (i : Ins) (s : ByteArray) (pos : Nat) (h : pos < s.size) (hn : letB p f i ((s[pos]'h).toNat : Int) = false) : opsS p f i s.data.toList = false := by
  have hl : pos < s.data.toList.length := by simpa using h
  exact List.all_eq_false.2 ⟨s.data.toList[pos], List.getElem_mem hl, by rw [show (s.data.toList[pos].toNat : Int) = ((s[pos]'h).toNat : Int) from rfl, hn]; decide⟩
end Go.Proofs.YtajmkdbokdjmeaaGreat
/- ir: body. -/
namespace Go.Proofs.YtajmkdbokdjmeaaGreat
open Go.RowKit
/-- The error of an instruction at place k; 0: none. -/
def insE (p : Prg) (f : Fun') (k : Nat) (i : Ins) : Int := if rowL i.op = [] then 1 else if opsB p f i && allB f.code.length (nextI i ((k : Int) + 1)) then 0 else 8
/-- The first wrong instruction of some, from place k on. -/
def bodyF (p : Prg) (f : Fun') : Nat → List Ins → Int × Int
  | _, [] => (0, 0)
  | k, i :: r => if insE p f k i = 0 then bodyF p f (k + 1) r else (k, insE p f k i)
theorem bodyF_go {p : Prg} {f : Fun'} {k : Nat} (hk : k < f.code.length) (h : insE p f k f.code[k] = 0) : bodyF p f k (f.code.drop k) = bodyF p f (k + 1) (f.code.drop (k + 1)) := by
  rw [List.drop_eq_getElem_cons hk]
  show (if insE p f k f.code[k] = 0 then _ else _) = _
  rw [if_pos h]
theorem bodyF_stop {p : Prg} {f : Fun'} {k : Nat} {e : Int} (hk : k < f.code.length) (h : insE p f k f.code[k] = e) (he : e ≠ 0) : bodyF p f k (f.code.drop k) = ((k : Int), e) := by
  rw [List.drop_eq_getElem_cons hk]
  show (if insE p f k f.code[k] = 0 then _ else _) = _
  rw [h, if_neg he]
theorem nextI_len (i : Ins) (q : Int) : (nextI i q).length ≤ maxLen := by
  unfold maxLen nextI
  repeat' split
  all_goals simp
def pairV (x : Int × Int) : Value := .tuple #[.int .i64 x.1, .int .i64 x.2]
structure BdBox (p : Prg) (f : Fun') (b br bc : Nat) (w : World) : Prop where
  hp : BoxC (prgC p) 25 b w
  hf : BoxC (funC f) 39 (b + 1) w
  hr : BoxC #[.int .i64 f.regs] 3 br w
  hc : BoxC #[.int .i64 (f.code.length : Int)] 3 bc w
theorem BdBox.gr {p : Prg} {f : Fun'} {b br bc : Nat} {w w' : World} (h : BdBox p f b br bc w) (g : w.grownBy w' none) : BdBox p f b br bc w' := ⟨h.hp.gr g, h.hf.gr g, h.hr.gr g, h.hc.gr g⟩
theorem row_ne {op : Int} (h : ¬ rowL op = []) : ((rowB op).toList == []) = false := by
  by_cases h2 : 0 ≤ op ∧ op < 21
  · rcases op_cases h2.1 h2.2 with rfl | rfl | rfl | rfl | rfl | rfl | rfl | rfl | rfl | rfl | rfl | rfl | rfl | rfl | rfl | rfl | rfl | rfl | rfl | rfl | rfl
    · exact absurd rfl h
    all_goals decide +kernel
  · exact absurd (rowL_out h2) h
def BdRel (p : Prg) (f : Fun') (w : World) (br bc : Nat) (v : Value) (wr : World) : Prop :=
  ∃ k : Nat, k ≤ f.code.length ∧ v = .int .i64 k ∧ bodyF p f k (f.code.drop k) = bodyF p f 0 f.code ∧ w.grownBy wr none ∧ BdBox p f w.heap.size br bc wr
theorem ret_pair {k e : Int} {x : Int × Int} (h : x = (k, e)) : Ending.returned (.tuple #[.int .i64 k, .int .i64 e]) = .returned (pairV x) := by rw [h]; rfl
end Go.Proofs.YtajmkdbokdjmeaaGreat
/- ir: Check. -/
namespace Go.Proofs.YtajmkdbokdjmeaaGreat
open Go.RowKit
def triV (x : Int × Int × Int) : Value := .tuple #[.int .i64 x.1, .int .i64 x.2.1, .int .i64 x.2.2]
theorem ret_tri {a b c : Int} {x : Int × Int × Int} (h : x = (a, b, c)) : Ending.returned (.tuple #[.int .i64 a, .int .i64 b, .int .i64 c]) = .returned (triV x) := by rw [h]; rfl
/-- What is wrong with a function, at which place; zeros: nothing. -/
def funE (p : Prg) (k : Nat) (f : Fun') : Int × Int := if headF p k f = 0 then bodyF p f 0 f.code else (0, headF p k f)
def fnsP (p : Prg) : Nat → List Fun' → Int × Int × Int
  | _, [] => (0, 0, 0)
  | k, f :: r => if (funE p k f).2 = 0 then fnsP p (k + 1) r else (k, funE p k f)
def checkP (p : Prg) : Int × Int × Int :=
  if 200 < p.fns.length ∨ 600 < p.sites.length then (0, 0, 5) else if inB p.main p.fns.length && eachB p then fnsP p 0 p.fns else (0, 0, 8)
theorem fnsP_go {p : Prg} {k : Nat} (hk : k < p.fns.length) (h : (funE p k p.fns[k]).2 = 0) : fnsP p k (p.fns.drop k) = fnsP p (k + 1) (p.fns.drop (k + 1)) := by
  rw [List.drop_eq_getElem_cons hk]
  show (if (funE p k p.fns[k]).2 = 0 then _ else _) = _
  rw [if_pos h]
theorem fnsP_stop {p : Prg} {k : Nat} {pc e : Int} (hk : k < p.fns.length) (h : funE p k p.fns[k] = (pc, e)) (he : e ≠ 0) : fnsP p k (p.fns.drop k) = ((k : Int), pc, e) := by
  rw [List.drop_eq_getElem_cons hk]
  show (if (funE p k p.fns[k]).2 = 0 then _ else _) = _
  rw [h, if_neg he]
def CkRel (p : Prg) (w : World) (v : Value) (wr : World) : Prop :=
  ∃ k : Nat, k ≤ p.fns.length ∧ v = .int .i64 k ∧ fnsP p k (p.fns.drop k) = fnsP p 0 p.fns ∧ w.grownBy wr none ∧ BoxC (prgC p) 25 w.heap.size wr
end Go.Proofs.YtajmkdbokdjmeaaGreat
/- ir: Check, whatever the program. -/
namespace Go.Proofs.YtajmkdbokdjmeaaGreat
open Go.RowKit
section
variable (p : Prg) (w : World) (hv : VarsR w) (hp : PrgOk w p)
end

end Go.Proofs.YtajmkdbokdjmeaaGreat
/- The document's sign, Others. -/
namespace Go.Proofs.YtajmkdbokdjmeaaGreat
open Go.RowKit
def StrsAt (w : World) (ad : Addr) (l : List (List UInt8)) : Prop := ∀ j x, l[j]? = some x → w.cell? (ad.add j) = some (.string ⟨x.toArray⟩)
theorem StrsAt.new (w : World) (l : List (List UInt8)) (cs : Array Value) (t : TypeId) (b : Nat) (hcs : cs.toList = l.map fun x => Value.string ⟨x.toArray⟩) (hb : b = w.heap.size) : StrsAt (w.alloc (.cells cs t)) ⟨b, 0, none⟩ l := by
  subst hb
  intro j x hx
  rw [add_none, Nat.zero_add, cell_of_row _ _ _ _ _ _ (heap_alloc_new w _), ← Array.getElem?_toList, hcs]
  simp [hx]
def sgnB (l : List (List UInt8)) (s : ByteArray) : Bool := l.any fun x => x == s.toList
set_option maxRecDepth 100000 in
set_option maxHeartbeats 4000000 in
theorem sign_any (ad : Addr) (c : Nat) (l : List (List UInt8)) (s : ByteArray) (w : World) (hA : StrsAt w ad l) (hl : l.length ≤ 100) :
    Calls Tryz.prog 92 #[.slice (some ad) l.length c, .string s] w fun e w' => e = .returned (.bool (sgnB l s)) ∧ w.grownBy w' none := by
  have HA := Lib.hid hA
  clear hA
  go_enter Tryz.func92, Tryz.ntmps92
  go_wp2_with fail
  go_loopw [5] (fun i wr => ∃ k : Nat, k ≤ l.length ∧ i = .int .i64 k ∧ sgnB (l.take k) s = false ∧ w = wr) (fun i _ => l.length - (intOf i).toNat)
  case atStart => exact ⟨0, Nat.zero_le _, rfl, rfl, rfl⟩
  case round =>
    obtain ⟨k, hk, rfl, hno, rfl⟩ := hrel
    have HNO := Lib.hid hno
    clear hno
    by_cases hlt : k < l.length
    · have c0 := HA.out k _ (List.getElem?_eq_getElem hlt)
      have HTK := Lib.hid (show sgnB (l.take (k + 1)) s = (l[k] == s.toList) by rw [List.take_succ_eq_append_getElem hlt]; unfold sgnB at HNO ⊢; rw [List.any_append, HNO.out]; simp)
      have HYES := Lib.hid (show (l[k] == s.toList) = true → sgnB l s = true from fun h => List.any_eq_true.2 ⟨_, List.getElem_mem hlt, h⟩)
      generalize l[k] = x at *
      rcases hm : (x == s.toList)
      · have HM := Lib.hid hm
        go_wp2_with fail
        go_roundw
        case rel => exact ⟨k + 1, by omega, by go_num, by rw [HTK.out, HM.out], trivial⟩
        case measure => simp [intOf]; omega
      · have HM := Lib.hid hm
        go_wp2_with fail
        go_ret
        exact ⟨ret_bool (a := true) (HYES.out HM.out).symm, grownBy_refl _ _⟩
    · have hkk : k = l.length := by omega
      subst hkk
      have HALL := Lib.hid (show sgnB l s = false by have h := HNO.out; rwa [List.take_length] at h)
      go_wp2_with fail
      go_ret
      exact ⟨ret_bool (a := false) HALL.out.symm, grownBy_refl _ _⟩

end Go.Proofs.YtajmkdbokdjmeaaGreat
/- The document's Others. -/
namespace Go.Proofs.YtajmkdbokdjmeaaGreat
open Go.RowKit
def othB (p : Prg) (f : Fun') (i : Ins) : Bool :=
  if i.op = 2 then kindP p i.b != 0 else if i.op = 5 then betB i.sign else if i.op = 6 then unB i.sign else if i.op = 7 ∨ i.op = 8 ∨ i.op = 9 then widB i.w else if i.op = 10 then inB i.n 4097
  else if i.op = 13 then kindP p i.n == 3 else if i.op = 15 then fnB p i else if i.op = 16 then decide (i.args.length ≤ 6) else if i.op = 17 ∨ i.op = 18 then inB i.n f.code.length else true
section
variable (p : Prg) (f : Fun') (a b c ww n : Int) (sign : ByteArray) (aa : Option Addr) (an ac : Nat) (args : List Int) (w : World)
theorem box3 (i : Ins) : w.grownBy (((w.alloc (.cells (prgC p) 25)).alloc (.cells (funC f) 39)).alloc (.cells (insC i) 36)) none := by repeat (first | with_reducible exact grownBy_refl _ _ | with_reducible assumption | with_reducible refine World.grownBy.gr_drew ?_ | with_reducible refine World.grownBy.gr_set ?_ (by simp) _ | with_reducible refine gr_alloc ?_ _)
set_option maxRecDepth 100000 in
set_option maxHeartbeats 4000000 in
theorem oth_2 (hp : PrgOk w p) : Calls Tryz.prog 54 #[prgV p, funV f, insV ⟨2, a, b, c, ww, n, sign, aa, an, ac, args⟩] w fun e w' => e = .returned (.bool (kindP p b != 0)) ∧ w.grownBy w' none := by
  have HG0 := Lib.hid (box3 p f w ⟨2, a, b, c, ww, n, sign, aa, an, ac, args⟩)
  have HC := Lib.hid (Kind_any p b _ (hp.keep (CellsK.of HG0.out)))
  clear hp
  unfold prgV prgC funC insC at HC
  unfold prgC funC insC at HG0
  unfold prgV funV insV prgC funC insC
  go_enter Tryz.func54, Tryz.ntmps54
  go_wp2_with fail
  refine (HC.out).mono ?_
  rintro e w1 ⟨rfl, hg1⟩
  have HG1 := Lib.hid (grownBy_trans HG0.out hg1)
  clear hg1
  go_wp2_with fail
  go_ret
  exact ⟨rfl, HG1.out⟩
set_option maxRecDepth 100000 in
set_option maxHeartbeats 4000000 in
theorem oth_13 (hp : PrgOk w p) : Calls Tryz.prog 54 #[prgV p, funV f, insV ⟨13, a, b, c, ww, n, sign, aa, an, ac, args⟩] w fun e w' => e = .returned (.bool (kindP p n == 3)) ∧ w.grownBy w' none := by
  have HG0 := Lib.hid (box3 p f w ⟨13, a, b, c, ww, n, sign, aa, an, ac, args⟩)
  have HC := Lib.hid (Kind_any p n _ (hp.keep (CellsK.of HG0.out)))
  clear hp
  unfold prgV prgC funC insC at HC
  unfold prgC funC insC at HG0
  unfold prgV funV insV prgC funC insC
  go_enter Tryz.func54, Tryz.ntmps54
  go_wp2_with fail
  refine (HC.out).mono ?_
  rintro e w1 ⟨rfl, hg1⟩
  have HG1 := Lib.hid (grownBy_trans HG0.out hg1)
  clear hg1
  go_wp2_with fail
  go_ret
  exact ⟨rfl, HG1.out⟩
set_option maxRecDepth 100000 in
set_option maxHeartbeats 4000000 in
theorem oth_5 : Calls Tryz.prog 54 #[prgV p, funV f, insV ⟨5, a, b, c, ww, n, sign, aa, an, ac, args⟩] w fun e w' => e = .returned (.bool (betB sign)) ∧ w.grownBy w' none := by
  have HG0 := Lib.hid (gr_alloc (box3 p f w ⟨5, a, b, c, ww, n, sign, aa, an, ac, args⟩) (.cells #[.string ⟨#[43]⟩, .string ⟨#[45]⟩, .string ⟨#[42]⟩, .string ⟨#[47]⟩, .string ⟨#[37]⟩, .string ⟨#[38]⟩, .string ⟨#[124]⟩, .string ⟨#[94]⟩, .string ⟨#[60, 60]⟩, .string ⟨#[62, 62]⟩, .string ⟨#[61, 61]⟩, .string ⟨#[33, 61]⟩, .string ⟨#[60]⟩, .string ⟨#[60, 61]⟩, .string ⟨#[62]⟩, .string ⟨#[62, 61]⟩] 9))
  have HS := Lib.hid (StrsAt.new (((w.alloc (.cells (prgC p) 25)).alloc (.cells (funC f) 39)).alloc (.cells (insC ⟨5, a, b, c, ww, n, sign, aa, an, ac, args⟩) 36)) signsT #[.string ⟨#[43]⟩, .string ⟨#[45]⟩, .string ⟨#[42]⟩, .string ⟨#[47]⟩, .string ⟨#[37]⟩, .string ⟨#[38]⟩, .string ⟨#[124]⟩, .string ⟨#[94]⟩, .string ⟨#[60, 60]⟩, .string ⟨#[62, 62]⟩, .string ⟨#[61, 61]⟩, .string ⟨#[33, 61]⟩, .string ⟨#[60]⟩, .string ⟨#[60, 61]⟩, .string ⟨#[62]⟩, .string ⟨#[62, 61]⟩] 9 (w.heap.size + 3) rfl (by simp))
  unfold prgC funC insC at HS HG0
  unfold prgV funV insV prgC funC insC
  go_enter Tryz.func54, Tryz.ntmps54
  go_wp2_with fail
  refine (sign_any _ _ signsT sign _ HS.out (by decide)).mono ?_
  rintro e w1 ⟨rfl, hg1⟩
  have HG1 := Lib.hid (grownBy_trans HG0.out hg1)
  clear hg1
  go_wp2_with fail
  go_ret
  exact ⟨ret_bool (by simp [sgnB, signsT, betB, Bool.beq_comm]), HG1.out⟩
set_option maxRecDepth 100000 in
set_option maxHeartbeats 4000000 in
theorem oth_6 : Calls Tryz.prog 54 #[prgV p, funV f, insV ⟨6, a, b, c, ww, n, sign, aa, an, ac, args⟩] w fun e w' => e = .returned (.bool (unB sign)) ∧ w.grownBy w' none := by
  have HG0 := Lib.hid (gr_alloc (box3 p f w ⟨6, a, b, c, ww, n, sign, aa, an, ac, args⟩) (.cells #[.string ⟨#[45]⟩, .string ⟨#[126]⟩] 9))
  have HS := Lib.hid (StrsAt.new (((w.alloc (.cells (prgC p) 25)).alloc (.cells (funC f) 39)).alloc (.cells (insC ⟨6, a, b, c, ww, n, sign, aa, an, ac, args⟩) 36)) [[45], [126]] #[.string ⟨#[45]⟩, .string ⟨#[126]⟩] 9 (w.heap.size + 3) rfl (by simp))
  unfold prgC funC insC at HS HG0
  unfold prgV funV insV prgC funC insC
  go_enter Tryz.func54, Tryz.ntmps54
  go_wp2_with fail
  refine (sign_any _ _ [[45], [126]] sign _ HS.out (by decide)).mono ?_
  rintro e w1 ⟨rfl, hg1⟩
  have HG1 := Lib.hid (grownBy_trans HG0.out hg1)
  clear hg1
  go_wp2_with fail
  go_ret
  exact ⟨ret_bool (by simp [sgnB, unB, Bool.beq_comm]), HG1.out⟩
set_option maxRecDepth 100000 in
set_option maxHeartbeats 4000000 in
theorem oth_7 : Calls Tryz.prog 54 #[prgV p, funV f, insV ⟨7, a, b, c, ww, n, sign, aa, an, ac, args⟩] w fun e w' => e = .returned (.bool (widB ww)) ∧ w.grownBy w' none := by
  unfold prgV funV insV prgC funC insC
  go_enter Tryz.func54, Tryz.ntmps54
  go_wp2_with fail
  all_goals
    go_ret
    first
    | exact ⟨rfl, by repeat (first | with_reducible exact grownBy_refl _ _ | with_reducible assumption | with_reducible refine World.grownBy.gr_drew ?_ | with_reducible refine World.grownBy.gr_set ?_ (by simp) _ | with_reducible refine gr_alloc ?_ _)⟩
    | exact ⟨ret_bool (by unfold widB; simp [*]), by repeat (first | with_reducible exact grownBy_refl _ _ | with_reducible assumption | with_reducible refine World.grownBy.gr_drew ?_ | with_reducible refine World.grownBy.gr_set ?_ (by simp) _ | with_reducible refine gr_alloc ?_ _)⟩
set_option maxRecDepth 100000 in
set_option maxHeartbeats 4000000 in
theorem oth_8 : Calls Tryz.prog 54 #[prgV p, funV f, insV ⟨8, a, b, c, ww, n, sign, aa, an, ac, args⟩] w fun e w' => e = .returned (.bool (widB ww)) ∧ w.grownBy w' none := by
  unfold prgV funV insV prgC funC insC
  go_enter Tryz.func54, Tryz.ntmps54
  go_wp2_with fail
  all_goals
    go_ret
    first
    | exact ⟨rfl, by repeat (first | with_reducible exact grownBy_refl _ _ | with_reducible assumption | with_reducible refine World.grownBy.gr_drew ?_ | with_reducible refine World.grownBy.gr_set ?_ (by simp) _ | with_reducible refine gr_alloc ?_ _)⟩
    | exact ⟨ret_bool (by unfold widB; simp [*]), by repeat (first | with_reducible exact grownBy_refl _ _ | with_reducible assumption | with_reducible refine World.grownBy.gr_drew ?_ | with_reducible refine World.grownBy.gr_set ?_ (by simp) _ | with_reducible refine gr_alloc ?_ _)⟩
set_option maxRecDepth 100000 in
set_option maxHeartbeats 4000000 in
theorem oth_9 : Calls Tryz.prog 54 #[prgV p, funV f, insV ⟨9, a, b, c, ww, n, sign, aa, an, ac, args⟩] w fun e w' => e = .returned (.bool (widB ww)) ∧ w.grownBy w' none := by
  unfold prgV funV insV prgC funC insC
  go_enter Tryz.func54, Tryz.ntmps54
  go_wp2_with fail
  all_goals
    go_ret
    first
    | exact ⟨rfl, by repeat (first | with_reducible exact grownBy_refl _ _ | with_reducible assumption | with_reducible refine World.grownBy.gr_drew ?_ | with_reducible refine World.grownBy.gr_set ?_ (by simp) _ | with_reducible refine gr_alloc ?_ _)⟩
    | exact ⟨ret_bool (by unfold widB; simp [*]), by repeat (first | with_reducible exact grownBy_refl _ _ | with_reducible assumption | with_reducible refine World.grownBy.gr_drew ?_ | with_reducible refine World.grownBy.gr_set ?_ (by simp) _ | with_reducible refine gr_alloc ?_ _)⟩
set_option maxRecDepth 100000 in
set_option maxHeartbeats 4000000 in
theorem oth_10 : Calls Tryz.prog 54 #[prgV p, funV f, insV ⟨10, a, b, c, ww, n, sign, aa, an, ac, args⟩] w fun e w' => e = .returned (.bool (inB n 4097)) ∧ w.grownBy w' none := by
  unfold prgV funV insV prgC funC insC
  by_cases h0 : 0 ≤ n
  · by_cases h1 : n ≤ 4096
    · rw [show inB n 4097 = true by unfold inB; simp; omega]
      go_enter Tryz.func54, Tryz.ntmps54
      go_wp2_with fail
      go_ret
      exact ⟨rfl, by repeat (first | with_reducible exact grownBy_refl _ _ | with_reducible assumption | with_reducible refine World.grownBy.gr_drew ?_ | with_reducible refine World.grownBy.gr_set ?_ (by simp) _ | with_reducible refine gr_alloc ?_ _)⟩
    · rw [show inB n 4097 = false by unfold inB; simp; omega]
      go_enter Tryz.func54, Tryz.ntmps54
      go_wp2_with fail
      go_ret
      exact ⟨rfl, by repeat (first | with_reducible exact grownBy_refl _ _ | with_reducible assumption | with_reducible refine World.grownBy.gr_drew ?_ | with_reducible refine World.grownBy.gr_set ?_ (by simp) _ | with_reducible refine gr_alloc ?_ _)⟩
  · rw [show inB n 4097 = false by unfold inB; simp; omega]
    go_enter Tryz.func54, Tryz.ntmps54
    go_wp2_with fail
    go_ret
    exact ⟨rfl, by repeat (first | with_reducible exact grownBy_refl _ _ | with_reducible assumption | with_reducible refine World.grownBy.gr_drew ?_ | with_reducible refine World.grownBy.gr_set ?_ (by simp) _ | with_reducible refine gr_alloc ?_ _)⟩
set_option maxRecDepth 100000 in
set_option maxHeartbeats 4000000 in
theorem oth_17 : Calls Tryz.prog 54 #[prgV p, funV f, insV ⟨17, a, b, c, ww, n, sign, aa, an, ac, args⟩] w fun e w' => e = .returned (.bool (inB n f.code.length)) ∧ w.grownBy w' none := by
  unfold prgV funV insV prgC funC insC
  generalize f.code.length = m
  by_cases h0 : 0 ≤ n
  · by_cases h1 : n < (m : Int)
    · rw [show inB n (m : Int) = true by unfold inB; simp; omega]
      go_enter Tryz.func54, Tryz.ntmps54
      go_wp2_with fail
      go_ret
      exact ⟨rfl, by repeat (first | with_reducible exact grownBy_refl _ _ | with_reducible assumption | with_reducible refine World.grownBy.gr_drew ?_ | with_reducible refine World.grownBy.gr_set ?_ (by simp) _ | with_reducible refine gr_alloc ?_ _)⟩
    · rw [show inB n (m : Int) = false by unfold inB; simp; omega]
      go_enter Tryz.func54, Tryz.ntmps54
      go_wp2_with fail
      go_ret
      exact ⟨rfl, by repeat (first | with_reducible exact grownBy_refl _ _ | with_reducible assumption | with_reducible refine World.grownBy.gr_drew ?_ | with_reducible refine World.grownBy.gr_set ?_ (by simp) _ | with_reducible refine gr_alloc ?_ _)⟩
  · rw [show inB n (m : Int) = false by unfold inB; simp; omega]
    go_enter Tryz.func54, Tryz.ntmps54
    go_wp2_with fail
    go_ret
    exact ⟨rfl, by repeat (first | with_reducible exact grownBy_refl _ _ | with_reducible assumption | with_reducible refine World.grownBy.gr_drew ?_ | with_reducible refine World.grownBy.gr_set ?_ (by simp) _ | with_reducible refine gr_alloc ?_ _)⟩
set_option maxRecDepth 100000 in
set_option maxHeartbeats 4000000 in
theorem oth_18 : Calls Tryz.prog 54 #[prgV p, funV f, insV ⟨18, a, b, c, ww, n, sign, aa, an, ac, args⟩] w fun e w' => e = .returned (.bool (inB n f.code.length)) ∧ w.grownBy w' none := by
  unfold prgV funV insV prgC funC insC
  generalize f.code.length = m
  by_cases h0 : 0 ≤ n
  · by_cases h1 : n < (m : Int)
    · rw [show inB n (m : Int) = true by unfold inB; simp; omega]
      go_enter Tryz.func54, Tryz.ntmps54
      go_wp2_with fail
      go_ret
      exact ⟨rfl, by repeat (first | with_reducible exact grownBy_refl _ _ | with_reducible assumption | with_reducible refine World.grownBy.gr_drew ?_ | with_reducible refine World.grownBy.gr_set ?_ (by simp) _ | with_reducible refine gr_alloc ?_ _)⟩
    · rw [show inB n (m : Int) = false by unfold inB; simp; omega]
      go_enter Tryz.func54, Tryz.ntmps54
      go_wp2_with fail
      go_ret
      exact ⟨rfl, by repeat (first | with_reducible exact grownBy_refl _ _ | with_reducible assumption | with_reducible refine World.grownBy.gr_drew ?_ | with_reducible refine World.grownBy.gr_set ?_ (by simp) _ | with_reducible refine gr_alloc ?_ _)⟩
  · rw [show inB n (m : Int) = false by unfold inB; simp; omega]
    go_enter Tryz.func54, Tryz.ntmps54
    go_wp2_with fail
    go_ret
    exact ⟨rfl, by repeat (first | with_reducible exact grownBy_refl _ _ | with_reducible assumption | with_reducible refine World.grownBy.gr_drew ?_ | with_reducible refine World.grownBy.gr_set ?_ (by simp) _ | with_reducible refine gr_alloc ?_ _)⟩
set_option maxRecDepth 100000 in
set_option maxHeartbeats 4000000 in
theorem oth_16 (hn : an = args.length) : Calls Tryz.prog 54 #[prgV p, funV f, insV ⟨16, a, b, c, ww, n, sign, aa, an, ac, args⟩] w fun e w' => e = .returned (.bool (decide (args.length ≤ 6))) ∧ w.grownBy w' none := by
  subst hn
  unfold prgV funV insV prgC funC insC
  generalize args.length = k
  go_enter Tryz.func54, Tryz.ntmps54
  go_wp2_with fail
  go_ret
  exact ⟨ret_bool (by rw [decide_eq_decide]; omega), by repeat (first | with_reducible exact grownBy_refl _ _ | with_reducible assumption | with_reducible refine World.grownBy.gr_drew ?_ | with_reducible refine World.grownBy.gr_set ?_ (by simp) _ | with_reducible refine gr_alloc ?_ _)⟩
set_option maxRecDepth 100000 in
set_option maxHeartbeats 4000000 in
theorem oth_15 (hp : PrgOk w p) (hn : an = args.length) : Calls Tryz.prog 54 #[prgV p, funV f, insV ⟨15, a, b, c, ww, n, sign, aa, an, ac, args⟩] w fun e w' => e = .returned (.bool (fnB p ⟨15, a, b, c, ww, n, sign, aa, an, ac, args⟩)) ∧ w.grownBy w' none := by
  subst hn
  have hl := hp.2.1
  unfold maxLen at hl
  by_cases h0 : n < 0
  · have hb : inB n (p.fns.length : Int) = false := by unfold inB; simp; omega
    rw [show fnB p ⟨15, a, b, c, ww, n, sign, aa, args.length, ac, args⟩ = false by unfold fnB; simp only []; rw [hb]; rfl]
    have e1 : decide (0 ≤ n) = false := by simpa using h0
    unfold prgV funV insV prgC funC insC
    clear h0 hp hb
    go_enter Tryz.func54, Tryz.ntmps54
    go_wp2_with fail
    go_quiet (fail)
    go_wp2_with fail
    go_ret
    exact ⟨rfl, gr_drewN (by repeat (first | with_reducible exact grownBy_refl _ _ | with_reducible assumption | with_reducible refine World.grownBy.gr_drew ?_ | with_reducible refine World.grownBy.gr_set ?_ (by simp) _ | with_reducible refine gr_alloc ?_ _)) _⟩
  by_cases h1 : (p.fns.length : Int) ≤ n
  · have hb : inB n (p.fns.length : Int) = false := by unfold inB; simp; omega
    rw [show fnB p ⟨15, a, b, c, ww, n, sign, aa, args.length, ac, args⟩ = false by unfold fnB; simp only []; rw [hb]; rfl]
    have e1 : decide (0 ≤ n) = true := by simp; omega
    have e2 : decide (n < (p.fns.length : Int)) = false := by simp; omega
    unfold prgV funV insV prgC funC insC
    clear h0 h1 hp hb
    go_enter Tryz.func54, Tryz.ntmps54
    go_wp2_with fail
    go_quiet (fail)
    go_wp2_with fail
    go_ret
    exact ⟨rfl, gr_drewN (by repeat (first | with_reducible exact grownBy_refl _ _ | with_reducible assumption | with_reducible refine World.grownBy.gr_drew ?_ | with_reducible refine World.grownBy.gr_set ?_ (by simp) _ | with_reducible refine gr_alloc ?_ _)) _⟩
  · obtain ⟨k, hik⟩ : ∃ k : Nat, n = k := ⟨n.toNat, by omega⟩
    subst hik
    have hk : k < p.fns.length := by omega
    have hb : inB (k : Int) (p.fns.length : Int) = true := by unfold inB; simp; omega
    rw [show fnB p ⟨15, a, b, c, ww, k, sign, aa, args.length, ac, args⟩ = (p.fns[k].params == (args.length : Int)) by unfold fnB; simp only []; rw [hb, parOf_in hk]; rfl]
    obtain ⟨ad, ha, _, _, hc, _⟩ := fun_cells (hp.2.2.2.1.keep (CellsK.of (box3 p f w ⟨15, a, b, c, ww, k, sign, aa, args.length, ac, args⟩))) hk
    unfold prgC funC insC at hc
    unfold prgV funV insV prgC funC insC
    generalize p.fns[k] = s at *
    generalize hsa : p.fa = sa at *
    subst ha
    generalize args.length = na at *
    have e1 : decide ((0 : Int) ≤ (k : Int)) = true := by simp
    have e2 : decide ((k : Int) < (p.fns.length : Int)) = true := by simp; omega
    clear hp h0 h1 hsa hb
    go_enter Tryz.func54, Tryz.ntmps54
    go_wp2_with fail
    go_quiet (fail)
    go_wp2_with fail
    go_ret
    exact ⟨ret_bool (by rw [Bool.eq_iff_iff]; simp; exact eq_comm), gr_drewN (by repeat (first | with_reducible exact grownBy_refl _ _ | with_reducible assumption | with_reducible refine World.grownBy.gr_drew ?_ | with_reducible refine World.grownBy.gr_set ?_ (by simp) _ | with_reducible refine gr_alloc ?_ _)) _⟩
set_option maxRecDepth 100000 in
set_option maxHeartbeats 4000000 in
theorem oth_else (op : Int) (h : op ≠ 2 ∧ op ≠ 5 ∧ op ≠ 6 ∧ op ≠ 7 ∧ op ≠ 8 ∧ op ≠ 9 ∧ op ≠ 10 ∧ op ≠ 13 ∧ op ≠ 15 ∧ op ≠ 16 ∧ op ≠ 17 ∧ op ≠ 18) : Calls Tryz.prog 54 #[prgV p, funV f, insV ⟨op, a, b, c, ww, n, sign, aa, an, ac, args⟩] w fun e w' => e = .returned (.bool true) ∧ w.grownBy w' none := by
  have e2 : (op == 2) = false := beq_eq_false_iff_ne.2 (by omega)
  have e5 : (op == 5) = false := beq_eq_false_iff_ne.2 (by omega)
  have e6 : (op == 6) = false := beq_eq_false_iff_ne.2 (by omega)
  have e7 : (op == 7) = false := beq_eq_false_iff_ne.2 (by omega)
  have e8 : (op == 8) = false := beq_eq_false_iff_ne.2 (by omega)
  have e9 : (op == 9) = false := beq_eq_false_iff_ne.2 (by omega)
  have e10 : (op == 10) = false := beq_eq_false_iff_ne.2 (by omega)
  have e13 : (op == 13) = false := beq_eq_false_iff_ne.2 (by omega)
  have e15 : (op == 15) = false := beq_eq_false_iff_ne.2 (by omega)
  have e16 : (op == 16) = false := beq_eq_false_iff_ne.2 (by omega)
  have e17 : (op == 17) = false := beq_eq_false_iff_ne.2 (by omega)
  have e18 : (op == 18) = false := beq_eq_false_iff_ne.2 (by omega)
  clear h
  unfold prgV funV insV prgC funC insC
  go_enter Tryz.func54, Tryz.ntmps54
  go_wp2_with fail
  go_ret
  exact ⟨rfl, by repeat (first | with_reducible exact grownBy_refl _ _ | with_reducible assumption | with_reducible refine World.grownBy.gr_drew ?_ | with_reducible refine World.grownBy.gr_set ?_ (by simp) _ | with_reducible refine gr_alloc ?_ _)⟩
end
theorem Others_any (p : Prg) (f : Fun') (i : Ins) (w : World) (hp : PrgOk w p) (hA : IntsAt w i.aa i.an i.ac i.args) : Calls Tryz.prog 54 #[prgV p, funV f, insV i] w fun e w' => e = .returned (.bool (othB p f i)) ∧ w.grownBy w' none := by
  obtain ⟨op, a, b, c, ww, n, sign, aa, an, ac, args⟩ := i
  have hn : an = args.length := hA.1
  by_cases h : op ≠ 2 ∧ op ≠ 5 ∧ op ≠ 6 ∧ op ≠ 7 ∧ op ≠ 8 ∧ op ≠ 9 ∧ op ≠ 10 ∧ op ≠ 13 ∧ op ≠ 15 ∧ op ≠ 16 ∧ op ≠ 17 ∧ op ≠ 18
  · rw [show othB p f ⟨op, a, b, c, ww, n, sign, aa, an, ac, args⟩ = true by unfold othB; simp only []; repeat rw [if_neg (by omega)]]
    exact oth_else p f a b c ww n sign aa an ac args w op h
  · have hk : op = 2 ∨ op = 5 ∨ op = 6 ∨ op = 7 ∨ op = 8 ∨ op = 9 ∨ op = 10 ∨ op = 13 ∨ op = 15 ∨ op = 16 ∨ op = 17 ∨ op = 18 := by omega
    clear h
    rcases hk with rfl | rfl | rfl | rfl | rfl | rfl | rfl | rfl | rfl | rfl | rfl | rfl
    · exact oth_2 p f a b c ww n sign aa an ac args w hp
    · exact oth_5 p f a b c ww n sign aa an ac args w
    · exact oth_6 p f a b c ww n sign aa an ac args w
    · exact oth_7 p f a b c ww n sign aa an ac args w
    · exact oth_8 p f a b c ww n sign aa an ac args w
    · exact oth_9 p f a b c ww n sign aa an ac args w
    · exact oth_10 p f a b c ww n sign aa an ac args w
    · exact oth_13 p f a b c ww n sign aa an ac args w hp
    · exact oth_15 p f a b c ww n sign aa an ac args w hp hn
    · exact oth_16 p f a b c ww n sign aa an ac args w hn
    · exact oth_17 p f a b c ww n sign aa an ac args w
    · exact oth_18 p f a b c ww n sign aa an ac args w

end Go.Proofs.YtajmkdbokdjmeaaGreat
/- The document's Insn. -/
namespace Go.Proofs.YtajmkdbokdjmeaaGreat
open Go.RowKit
/-- The two ways to say it are one. -/
theorem ops_split (p : Prg) (f : Fun') (i : Ins) (h1 : 1 ≤ i.op) (h2 : i.op ≤ 20) : opsB p f i = (allB f.regs (readsI i) && ((!(wrB i.op) || inB i.a f.regs) && othB p f i)) := by
  rw [readsI_tab]
  obtain ⟨op, a, b, c, ww, n, sign, aa, an, ac, args⟩ := i
  simp only [] at h1 h2
  have hc : op = 1 ∨ op = 2 ∨ op = 3 ∨ op = 4 ∨ op = 5 ∨ op = 6 ∨ op = 7 ∨ op = 8 ∨ op = 9 ∨ op = 10 ∨ op = 11 ∨ op = 12 ∨ op = 13 ∨ op = 14 ∨ op = 15 ∨ op = 16 ∨ op = 17 ∨ op = 18 ∨ op = 19 ∨ op = 20 := by omega
  rcases hc with rfl | rfl | rfl | rfl | rfl | rfl | rfl | rfl | rfl | rfl | rfl | rfl | rfl | rfl | rfl | rfl | rfl | rfl | rfl | rfl
  all_goals
    simp [opsB, opsS, rowL, rowsT, letB, readL, opdB, tabR, allB, wrB, othB, Bool.and_assoc, Bool.and_comm, Bool.and_left_comm]
theorem rowL_ne {op : Int} (h1 : 1 ≤ op) (h2 : op ≤ 20) : rowL op ≠ [] := by
  have hc : op = 1 ∨ op = 2 ∨ op = 3 ∨ op = 4 ∨ op = 5 ∨ op = 6 ∨ op = 7 ∨ op = 8 ∨ op = 9 ∨ op = 10 ∨ op = 11 ∨ op = 12 ∨ op = 13 ∨ op = 14 ∨ op = 15 ∨ op = 16 ∨ op = 17 ∨ op = 18 ∨ op = 19 ∨ op = 20 := by omega
  rcases hc with rfl | rfl | rfl | rfl | rfl | rfl | rfl | rfl | rfl | rfl | rfl | rfl | rfl | rfl | rfl | rfl | rfl | rfl | rfl | rfl
  all_goals decide
theorem rowL_em {op : Int} (h : op < 1 ∨ 20 < op) : rowL op = [] := by
  by_cases h0 : op = 0
  · subst h0; decide
  · exact rowL_out (by omega)

end Go.Proofs.YtajmkdbokdjmeaaGreat
/- The document's Insn, walked. -/
namespace Go.Proofs.YtajmkdbokdjmeaaGreat
open Go.RowKit
def regL (i : Ins) : List Int := readsI i ++ (if wrB i.op then [i.a] else [])
theorem regL_all (f : Fun') (i : Ins) : allB f.regs (regL i) = (allB f.regs (readsI i) && (!(wrB i.op) || inB i.a f.regs)) := by
  unfold regL allB
  rw [List.all_append]
  cases wrB i.op <;> simp
theorem insE_out {p : Prg} {f : Fun'} {k : Nat} {i : Ins} (h : i.op < 1 ∨ 20 < i.op) : insE p f k i = 1 := by unfold insE; rw [if_pos (rowL_em h)]
theorem insE_bad {p : Prg} {f : Fun'} {k : Nat} {i : Ins} (h1 : 1 ≤ i.op) (h2 : i.op ≤ 20) (h : allB f.regs (regL i) = false ∨ othB p f i = false ∨ allB f.code.length (nextI i ((k : Int) + 1)) = false) : insE p f k i = 8 := by
  unfold insE
  rw [if_neg (rowL_ne h1 h2), ops_split p f i h1 h2, if_neg]
  intro hh
  rw [regL_all] at h
  simp only [Bool.and_eq_true] at hh
  rcases h with h | h | h
  · rw [hh.1.1, hh.1.2.1] at h; cases h
  · rw [hh.1.2.2] at h; cases h
  · rw [hh.2] at h; cases h
theorem insE_good {p : Prg} {f : Fun'} {k : Nat} {i : Ins} (h1 : 1 ≤ i.op) (h2 : i.op ≤ 20) (ha : allB f.regs (regL i) = true) (hb : othB p f i = true) (hc : allB f.code.length (nextI i ((k : Int) + 1)) = true) : insE p f k i = 0 := by
  unfold insE
  rw [if_neg (rowL_ne h1 h2), ops_split p f i h1 h2, if_pos]
  rw [regL_all, Bool.and_eq_true] at ha
  rw [ha.1, ha.2, hb, hc]
  rfl
theorem regL_len (i : Ins) (h : i.args.length * 8 ≤ 140737488351232) : ((readsI i).length + 1) * 8 ≤ 140737488355328 := by
  have hr : (readsI i).length ≤ i.args.length + 3 := by
    rw [readsI_tab]; unfold tabR; repeat' split
    all_goals (simp; try omega)
  omega
structure InBox (p : Prg) (f : Fun') (i : Ins) (b : Nat) (w0 w : World) : Prop where
  hp : BoxC (prgC p) 25 b w
  hf : BoxC (funC f) 39 (b + 1) w
  hi : BoxI i (b + 2) w
  g : w0.grownBy w none
theorem InBox.gr {p : Prg} {f : Fun'} {i : Ins} {b : Nat} {w0 w w' : World} (h : InBox p f i b w0 w) (g : w.grownBy w' none) : InBox p f i b w0 w' := ⟨h.hp.gr g, h.hf.gr g, h.hi.gr g, grownBy_trans h.g g⟩
theorem InBox.new (p : Prg) (f : Fun') (i : Ins) (w : World) : InBox p f i w.heap.size w (((w.alloc (.cells (prgC p) 25)).alloc (.cells (funC f) 39)).alloc (.cells (insC i) 36)) := by
  have h := OpBox.new p f i w
  exact ⟨h.p, h.f, h.i, by repeat (first | with_reducible exact grownBy_refl _ _ | with_reducible assumption | with_reducible refine World.grownBy.gr_drew ?_ | with_reducible refine World.grownBy.gr_set ?_ (by simp) _ | with_reducible refine gr_alloc ?_ _)⟩
/-- Ahead of a round over a list of ints. -/
def LpRel (p : Prg) (f : Fun') (i : Ins) (w : World) (m : Int) (A : Option Addr) (n c : Nat) (l : List Int) (v : Value) (wr : World) : Prop :=
  ∃ k : Nat, k ≤ l.length ∧ v = .int .i64 k ∧ allB m (l.take k) = true ∧ InBox p f i w.heap.size w wr ∧ IntsAt wr A n c l
theorem own_base {w : World} {base base' : Nat} {e : TypeId} {size n : Nat} {v : Value} {xs : List Value} (h : w.ownsRow base e size v n xs) (hb : base' ≤ base) : w.ownsRow base' e size v n xs :=
  ⟨h.1, h.2.imp id fun ⟨g, cap, cur, hv, hg, r⟩ => ⟨g, cap, cur, hv, by omega, r⟩⟩
theorem InBox.own {p : Prg} {f : Fun'} {i : Ins} {b : Nat} {w0 w w' : World} {r : Option Nat} (h : InBox p f i b w0 w) (hb : w0.heap.size ≤ b) (g : w.grownBy w' r) (hr : ∀ k, r = some k → b + 3 ≤ k) : InBox p f i b w0 w' := by
  have hk : ∀ j, j < w.heap.size → j < b + 3 → w'.heap[j]? = w.heap[j]? := fun j hj hj2 => g.block j hj (fun e => by have := hr _ e.symm; omega)
  exact ⟨(hk _ (lt_of_heap h.hp) (by omega)).trans h.hp, (hk _ (lt_of_heap h.hf) (by omega)).trans h.hf, (hk _ (lt_of_heap h.hi) (by omega)).trans h.hi, gr_own h.g g (fun k e => by have := hr _ e; omega)⟩
theorem allB_take {m : Int} {l : List Int} {k : Nat} (hk : k < l.length) (h : allB m (l.take k) = true) : allB m (l.take (k + 1)) = inB l[k] m := by
  rw [List.take_succ_eq_append_getElem hk]
  unfold allB at h ⊢
  rw [List.all_append, h]
  simp
theorem allB_no {m : Int} {l : List Int} {k : Nat} (hk : k < l.length) (h : inB l[k] m = false) : allB m l = false := List.all_eq_false.2 ⟨_, List.getElem_mem hk, by simp [h]⟩
set_option maxRecDepth 100000 in
set_option maxHeartbeats 16000000 in
theorem Insn_in (p : Prg) (f : Fun') (pc : Nat) (hk : pc < f.code.length) (w : World) (hp : PrgOk w p) (hf : FunOk w f) (h1 : 1 ≤ f.code[pc].op) (h2 : f.code[pc].op ≤ 20) :
    Calls Tryz.prog 27 #[prgV p, funV f, .int .i64 pc] w fun e w' => e = .returned (.int .i64 (insE p f pc f.code[pc])) ∧ w.grownBy w' none := by
  have HP := Lib.hid hp
  have HF := Lib.hid hf
  have hlc := hf.2.2.1
  unfold maxLen at hlc
  have HI := Lib.hid (hf.2.2.2.2 _ (List.getElem_mem hk))
  obtain ⟨ad, ha, c0, c1, c2, c3, c4, c5, c6, c7⟩ := ins_cells (hf.2.2.2.1.keep (CellsK.of (show w.grownBy ((w.alloc (.cells (prgC p) 25)).alloc (.cells (funC f) 39)) none by repeat (first | with_reducible exact grownBy_refl _ _ | with_reducible assumption | with_reducible refine World.grownBy.gr_drew ?_ | with_reducible refine World.grownBy.gr_set ?_ (by simp) _ | with_reducible refine gr_alloc ?_ _)))) hk
  have HX0 := Lib.hid (InBox.new p f f.code[pc] w)
  have HBAD := Lib.hid (insE_bad (p := p) (f := f) (k := pc) h1 h2)
  have HGOOD := Lib.hid (insE_good (p := p) (f := f) (k := pc) h1 h2)
  have HQ := Lib.hid (show IntKind.i64.wrap ((pc : Int) + 1) = (pc : Int) + 1 by rw [IntKind.wrap_i64]; omega)
  generalize f.code[pc] = i at *
  have HA := Lib.hid ha
  have HFV := Lib.hid (show funV f = .agg #[.string f.name, .int .i64 f.regs, .int .i64 f.params, .slice f.la f.locals.length f.lc, .slice (some ad) f.code.length f.cc] by unfold funV funC; rw [ha])
  have HFC := Lib.hid (show funC f = #[.string f.name, .int .i64 f.regs, .int .i64 f.params, .slice f.la f.locals.length f.lc, .slice (some ad) f.code.length f.cc] by unfold funC; rw [ha])
  have e1 : decide (i.op < 1) = false := decide_eq_false (by omega)
  have e2 : decide (20 < i.op) = false := decide_eq_false (by omega)
  rw [HFV.out]
  rw [HFC.out] at c0 c1 c2 c3 c4 c5 c6 c7 HX0
  unfold prgC at c0 c1 c2 c3 c4 c5 c6 c7 HX0
  unfold insC at HX0
  unfold prgV prgC
  clear hp hf ha h1 h2
  go_enter Tryz.func27, Tryz.ntmps27
  go_wp2_with fail
  refine (show Calls Tryz.prog 52 #[.agg #[.int .i64 i.op, .int .i64 i.a, .int .i64 i.b, .int .i64 i.c, .int .i64 i.w, .int .i64 i.n, .string i.sign, .slice i.aa i.an i.ac]] _ _ from r8_Reads_own i _ (HI.out.1.keep (CellsK.of HX0.out.g)) (by have := regL_len i HI.out.2; omega)).mono ?_
  rintro e w1 ⟨v, rfl, hown, hg1⟩
  have HX1 := Lib.hid (HX0.out.gr hg1)
  have HO1 := Lib.hid (own_base hown (show w.heap.size + 3 ≤ _ by simp))
  have HRLL := Lib.hid (show (regL i).length ≤ maxLen by
    have h1 := regL_len i HI.out.2
    have h2 : (regL i).length ≤ (readsI i).length + 1 := by unfold regL; split <;> simp
    unfold maxLen; omega)
  clear hown hg1 HX0 c0 c1 c2 c3 c4 c5 c6 c7 e1 e2
  have i0' : w1.cell? ⟨w.heap.size + 1 + 1, 0, none⟩ = some (.int .i64 i.op) := (BoxI.cells HX1.out.hi).1
  have i1' : w1.cell? ⟨w.heap.size + 1 + 1, 1, none⟩ = some (.int .i64 i.a) := (BoxI.cells HX1.out.hi).2.1
  go_wp2_with fail
  refine (r8_writes_any _ _).mono ?_
  rintro e w2 ⟨rfl, rfl⟩
  rcases hwr : wrB i.op
  · have HRL := Lib.hid (show regL i = readsI i by unfold regL; rw [hwr]; simp)
    obtain ⟨A, n, c, rfl, hIn⟩ := IntsAt.of_own HO1.out
    have HL := Lib.hid (show IntsAt w1 A n c (regL i) by rw [HRL.out]; exact hIn)
    have HX3 := HX1
    clear hwr hIn HO1 HRL i0' i1'
    go_wp2_with fail
    obtain rfl : n = (regL i).length := HL.out.1
    go_loopw [9] (fun v wr => LpRel p f i w f.regs A (regL i).length c (regL i) v wr) (fun v _ => (regL i).length - (intOf v).toNat)
    case atStart => exact ⟨0, Nat.zero_le _, rfl, rfl, HX3.out, HL.out⟩
    case round =>
      obtain ⟨k, hkl, rfl, hall, hx, hi⟩ := hrel
      have HAL := Lib.hid hall
      have HX := Lib.hid hx
      have HII := Lib.hid hi
      have hlen : (regL i).length ≤ maxLen := HRLL.out
      unfold maxLen at hlen
      clear hall
      by_cases hlt : k < (regL i).length
      · obtain ⟨ad2, rfl, hc0⟩ := hi.at_ hlt
        have f1 : wr.cell? ⟨w.heap.size + 1, 1, none⟩ = some (.int .i64 f.regs) := (boxF HX.out.hf).2.1
        have HTK := Lib.hid (allB_take hlt HAL.out)
        have HNO := Lib.hid (fun h => allB_no (m := f.regs) hlt h)
        have hxx : ∀ x : Int, x = (regL i)[k] → (x < 0 ∨ f.regs ≤ x → inB x f.regs = false) ∧ (0 ≤ x → x < f.regs → inB x f.regs = true) := fun x _ => ⟨fun h => by unfold inB; simp; omega, fun h h' => by unfold inB; simp; omega⟩
        obtain ⟨hxo, hxi⟩ := hxx _ rfl
        generalize (regL i)[k] = x at *
        have HXO := Lib.hid hxo
        have HXI := Lib.hid hxi
        clear hxx hxo hxi hx hi
        by_cases hx0 : x < 0
        · have e1 : decide (x < 0) = true := decide_eq_true hx0
          have HZ := Lib.hid (HNO.out (HXO.out (.inl hx0)))
          clear hx0
          go_wp2_with fail
          go_quiet (fail)
          go_wp2_with fail
          go_ret
          exact ⟨ret_i64 (a := 8) (HBAD.out (.inl HZ.out)).symm, gr_drewN HX.out.g _⟩
        · by_cases hx1 : f.regs ≤ x
          · have e1 : decide (x < 0) = false := decide_eq_false hx0
            have e2 : decide (f.regs ≤ x) = true := decide_eq_true hx1
            have HZ := Lib.hid (HNO.out (HXO.out (.inr hx1)))
            clear hx0 hx1
            go_wp2_with fail
            go_quiet (fail)
            go_wp2_with fail
            go_ret
            exact ⟨ret_i64 (a := 8) (HBAD.out (.inl HZ.out)).symm, gr_drewN HX.out.g _⟩
          · have e1 : decide (x < 0) = false := decide_eq_false hx0
            have e2 : decide (f.regs ≤ x) = false := decide_eq_false hx1
            have HZ := Lib.hid (HXI.out (by omega) (by omega))
            clear hx0 hx1
            go_wp2_with fail
            go_quiet (fail)
            go_wp2_with fail
            go_roundw
            case rel => exact ⟨k + 1, by omega, by go_num, by rw [HTK.out, HZ.out], HX.out.gr (gr_drewN (grownBy_refl _ _) _), HII.out⟩
            case measure => simp [intOf]; omega
      · have hkk : k = (regL i).length := by omega
        subst hkk
        have HZ := Lib.hid (show allB f.regs (regL i) = true by have h := HAL.out; rwa [List.take_length] at h)
        clear hx hi
        have HZ1 := HZ
        obtain ⟨b0, b1, b2⟩ := boxP HX.out.hp
        obtain ⟨f0, f1, f2, f3, f4⟩ := boxF HX.out.hf
        rw [HA.out] at f4
        obtain ⟨c0, c1, c2, c3, c4, c5, c6, c7⟩ := BoxI.cells (show BoxI i (w.heap.size + 1 + 1) wr from HX.out.hi)
        go_wp2_with fail
        refine (show Calls Tryz.prog 54 #[.agg #[.slice p.sa p.sites.length p.sc, .slice p.fa p.fns.length p.fc, .int .i64 p.main], .agg #[.string f.name, .int .i64 f.regs, .int .i64 f.params, .slice f.la f.locals.length f.lc, .slice (some ad) f.code.length f.cc], .agg #[.int .i64 i.op, .int .i64 i.a, .int .i64 i.b, .int .i64 i.c, .int .i64 i.w, .int .i64 i.n, .string i.sign, .slice i.aa i.an i.ac]] wr _ from by
          have h := Others_any p f i wr (HP.out.keep (CellsK.of HX.out.g)) (HI.out.1.keep (CellsK.of HX.out.g))
          rw [HFV.out] at h
          exact h).mono ?_
        rintro e w5 ⟨rfl, hg5⟩
        have HX5 := Lib.hid (HX.out.gr hg5)
        clear hg5 b0 b1 b2 f0 f1 f2 f3 f4 c0 c1 c2 c3 c4 c5 c6 c7 HX HII HAL
        rcases hoth : othB p f i
        · have HOT := Lib.hid hoth
          clear hoth
          go_wp2_with fail
          go_ret
          exact ⟨ret_i64 (a := 8) (HBAD.out (.inr (.inl HOT.out))).symm, HX5.out.g⟩
        · have HOT := Lib.hid hoth
          clear hoth
          obtain ⟨c0, c1, c2, c3, c4, c5, c6, c7⟩ := BoxI.cells (show BoxI i (w.heap.size + 1 + 1) w5 from HX5.out.hi)
          go_wp2_with fail
          refine (show Calls Tryz.prog 55 #[.agg #[.int .i64 i.op, .int .i64 i.a, .int .i64 i.b, .int .i64 i.c, .int .i64 i.w, .int .i64 i.n, .string i.sign, .slice i.aa i.an i.ac], .int .i64 (pc : Int)] w5 _ from r8_Next_any i pc _ HQ.out w5).mono ?_
          rintro e w7 ⟨A, n, c, rfl, hIn, hg7⟩
          have HX7 := Lib.hid (HX5.out.gr hg7)
          have HL := Lib.hid hIn
          clear hIn hg7 HX5 c0 c1 c2 c3 c4 c5 c6 c7
          go_wp2_with fail
          obtain rfl : n = (nextI i ((pc : Int) + 1)).length := HL.out.1
          go_loopw [10] (fun v wr => LpRel p f i w (f.code.length : Int) A (nextI i ((pc : Int) + 1)).length c (nextI i ((pc : Int) + 1)) v wr) (fun v _ => (nextI i ((pc : Int) + 1)).length - (intOf v).toNat)
          case atStart => exact ⟨0, Nat.zero_le _, rfl, rfl, HX7.out, HL.out⟩
          case round =>
            obtain ⟨k, hkl, rfl, hall, hx, hi⟩ := hrel
            have HAL := Lib.hid hall
            have HX := Lib.hid hx
            have HII := Lib.hid hi
            have hlen : (nextI i ((pc : Int) + 1)).length ≤ maxLen := nextI_len _ _
            unfold maxLen at hlen
            clear hall
            by_cases hlt : k < (nextI i ((pc : Int) + 1)).length
            · obtain ⟨ad2, rfl, hc0⟩ := hi.at_ hlt
              have f4 : wr.cell? ⟨w.heap.size + 1, 4, none⟩ = some (.slice (some ad) f.code.length f.cc) := by have := (boxF HX.out.hf).2.2.2.2; rwa [HA.out] at this
              have HTK := Lib.hid (allB_take hlt HAL.out)
              have HNO := Lib.hid (fun h => allB_no (m := (f.code.length : Int)) hlt h)
              have hxx : ∀ x : Int, x = (nextI i ((pc : Int) + 1))[k] → (x < 0 ∨ (f.code.length : Int) ≤ x → inB x (f.code.length : Int) = false) ∧ (0 ≤ x → x < (f.code.length : Int) → inB x (f.code.length : Int) = true) := fun x _ => ⟨fun h => by unfold inB; simp; omega, fun h h' => by unfold inB; simp; omega⟩
              obtain ⟨hxo, hxi⟩ := hxx _ rfl
              generalize (nextI i ((pc : Int) + 1))[k] = x at *
              have HXO := Lib.hid hxo
              have HXI := Lib.hid hxi
              clear hxx hxo hxi hx hi
              by_cases hx0 : x < 0
              · have e1 : decide (x < 0) = true := decide_eq_true hx0
                have HZ := Lib.hid (HNO.out (HXO.out (.inl hx0)))
                clear hx0
                go_wp2_with fail
                go_quiet (fail)
                go_wp2_with fail
                go_ret
                exact ⟨ret_i64 (a := 8) (HBAD.out (.inr (.inr HZ.out))).symm, gr_drewN HX.out.g _⟩
              · by_cases hx1 : (f.code.length : Int) ≤ x
                · have e1 : decide (x < 0) = false := decide_eq_false hx0
                  have e2 : decide ((f.code.length : Int) ≤ x) = true := decide_eq_true hx1
                  have HZ := Lib.hid (HNO.out (HXO.out (.inr hx1)))
                  clear hx0 hx1
                  go_wp2_with fail
                  go_quiet (fail)
                  go_wp2_with fail
                  go_ret
                  exact ⟨ret_i64 (a := 8) (HBAD.out (.inr (.inr HZ.out))).symm, gr_drewN HX.out.g _⟩
                · have e1 : decide (x < 0) = false := decide_eq_false hx0
                  have e2 : decide ((f.code.length : Int) ≤ x) = false := decide_eq_false hx1
                  have HZ := Lib.hid (HXI.out (by omega) (by omega))
                  clear hx0 hx1
                  go_wp2_with fail
                  go_quiet (fail)
                  go_wp2_with fail
                  go_roundw
                  case rel => exact ⟨k + 1, by omega, by go_num, by rw [HTK.out, HZ.out], HX.out.gr (gr_drewN (grownBy_refl _ _) _), HII.out⟩
                  case measure => simp [intOf]; omega
            · have hkk : k = (nextI i ((pc : Int) + 1)).length := by omega
              subst hkk
              have HZ := Lib.hid (show allB (f.code.length : Int) (nextI i ((pc : Int) + 1)) = true by have h := HAL.out; rwa [List.take_length] at h)
              clear hx hi
              go_wp2_with fail
              go_ret
              exact ⟨ret_i64 (a := 0) (HGOOD.out HZ1.out HOT.out HZ.out).symm, HX.out.g⟩
  · have HRL := Lib.hid (show regL i = readsI i ++ [i.a] by unfold regL; rw [hwr]; simp)
    clear hwr
    have HLN := Lib.hid (regL_len i HI.out.2)
    obtain ⟨i0, hi, hz0, hz1, hz2⟩ := info_parts info3
    go_wp2_with (at_builtin; go_must (refine wpList_append_own _ rfl (.tmp 29) (.tmp 32) 28 rfl (w.heap.size + 3) 3 i0 _ 1 8 Tryz.underlying28 hi hz0 hz1 hz2 rfl (by decide) v (readsI i).length (intsV (readsI i)) rfl (HO1.out.alloc _) ⟨w1.heap.size, 0, none⟩ 1 1 [.int .i64 i.a] rfl rfl ?_ ?_ ?_ ?_ ?_ ?_))
    · intro j u hu
      exact (IntsAt.new w1 [i.a] 3 _ 1 #[.int .i64 i.a] rfl rfl).2.elim (fun h => absurd h.1 (by simp)) (fun ⟨ad3, e3, h3⟩ => by
        obtain rfl := Option.some.inj e3
        rcases j with _ | j
        · obtain rfl : u = .int .i64 i.a := by simpa using hu.symm
          exact h3 0 i.a rfl
        · simp at hu)
    · intro u hu; simp at hu; subst hu; rfl
    · have := HLN.out; unfold maxLen; omega
    · have := HLN.out; omega
    · have := HX1.out.hi; have := lt_of_heap this; simp; omega
    intro v' w4 hown' hgrow _
    have HX3 := Lib.hid ((HX1.out.gr (gr_alloc (grownBy_refl _ _) _)).own (Nat.le_refl _) hgrow (fun k hk => (own_at HO1.out hk).1))
    have HO4 := Lib.hid (show w4.ownsRow (w.heap.size + 3) 3 1 v' (regL i).length (intsV (regL i)) by rw [HRL.out, intsV_append, List.length_append]; exact hown')
    clear hown' hgrow hi hz0 hz1 hz2 HO1 HX1 HRL HLN i0' i1'
    obtain ⟨A, n, c, rfl, hIn⟩ := IntsAt.of_own HO4.out
    have HL := Lib.hid hIn
    clear hIn HO4
    go_wp2_with fail
    obtain rfl : n = (regL i).length := HL.out.1
    go_loopw [9] (fun v wr => LpRel p f i w f.regs A (regL i).length c (regL i) v wr) (fun v _ => (regL i).length - (intOf v).toNat)
    case atStart => exact ⟨0, Nat.zero_le _, rfl, rfl, HX3.out, HL.out⟩
    case round =>
      obtain ⟨k, hkl, rfl, hall, hx, hi⟩ := hrel
      have HAL := Lib.hid hall
      have HX := Lib.hid hx
      have HII := Lib.hid hi
      have hlen : (regL i).length ≤ maxLen := HRLL.out
      unfold maxLen at hlen
      clear hall
      by_cases hlt : k < (regL i).length
      · obtain ⟨ad2, rfl, hc0⟩ := hi.at_ hlt
        have f1 : wr.cell? ⟨w.heap.size + 1, 1, none⟩ = some (.int .i64 f.regs) := (boxF HX.out.hf).2.1
        have HTK := Lib.hid (allB_take hlt HAL.out)
        have HNO := Lib.hid (fun h => allB_no (m := f.regs) hlt h)
        have hxx : ∀ x : Int, x = (regL i)[k] → (x < 0 ∨ f.regs ≤ x → inB x f.regs = false) ∧ (0 ≤ x → x < f.regs → inB x f.regs = true) := fun x _ => ⟨fun h => by unfold inB; simp; omega, fun h h' => by unfold inB; simp; omega⟩
        obtain ⟨hxo, hxi⟩ := hxx _ rfl
        generalize (regL i)[k] = x at *
        have HXO := Lib.hid hxo
        have HXI := Lib.hid hxi
        clear hxx hxo hxi hx hi
        by_cases hx0 : x < 0
        · have e1 : decide (x < 0) = true := decide_eq_true hx0
          have HZ := Lib.hid (HNO.out (HXO.out (.inl hx0)))
          clear hx0
          go_wp2_with fail
          go_quiet (fail)
          go_wp2_with fail
          go_ret
          exact ⟨ret_i64 (a := 8) (HBAD.out (.inl HZ.out)).symm, gr_drewN HX.out.g _⟩
        · by_cases hx1 : f.regs ≤ x
          · have e1 : decide (x < 0) = false := decide_eq_false hx0
            have e2 : decide (f.regs ≤ x) = true := decide_eq_true hx1
            have HZ := Lib.hid (HNO.out (HXO.out (.inr hx1)))
            clear hx0 hx1
            go_wp2_with fail
            go_quiet (fail)
            go_wp2_with fail
            go_ret
            exact ⟨ret_i64 (a := 8) (HBAD.out (.inl HZ.out)).symm, gr_drewN HX.out.g _⟩
          · have e1 : decide (x < 0) = false := decide_eq_false hx0
            have e2 : decide (f.regs ≤ x) = false := decide_eq_false hx1
            have HZ := Lib.hid (HXI.out (by omega) (by omega))
            clear hx0 hx1
            go_wp2_with fail
            go_quiet (fail)
            go_wp2_with fail
            go_roundw
            case rel => exact ⟨k + 1, by omega, by go_num, by rw [HTK.out, HZ.out], HX.out.gr (gr_drewN (grownBy_refl _ _) _), HII.out⟩
            case measure => simp [intOf]; omega
      · have hkk : k = (regL i).length := by omega
        subst hkk
        have HZ := Lib.hid (show allB f.regs (regL i) = true by have h := HAL.out; rwa [List.take_length] at h)
        clear hx hi
        have HZ1 := HZ
        obtain ⟨b0, b1, b2⟩ := boxP HX.out.hp
        obtain ⟨f0, f1, f2, f3, f4⟩ := boxF HX.out.hf
        rw [HA.out] at f4
        obtain ⟨c0, c1, c2, c3, c4, c5, c6, c7⟩ := BoxI.cells (show BoxI i (w.heap.size + 1 + 1) wr from HX.out.hi)
        go_wp2_with fail
        refine (show Calls Tryz.prog 54 #[.agg #[.slice p.sa p.sites.length p.sc, .slice p.fa p.fns.length p.fc, .int .i64 p.main], .agg #[.string f.name, .int .i64 f.regs, .int .i64 f.params, .slice f.la f.locals.length f.lc, .slice (some ad) f.code.length f.cc], .agg #[.int .i64 i.op, .int .i64 i.a, .int .i64 i.b, .int .i64 i.c, .int .i64 i.w, .int .i64 i.n, .string i.sign, .slice i.aa i.an i.ac]] wr _ from by
          have h := Others_any p f i wr (HP.out.keep (CellsK.of HX.out.g)) (HI.out.1.keep (CellsK.of HX.out.g))
          rw [HFV.out] at h
          exact h).mono ?_
        rintro e w5 ⟨rfl, hg5⟩
        have HX5 := Lib.hid (HX.out.gr hg5)
        clear hg5 b0 b1 b2 f0 f1 f2 f3 f4 c0 c1 c2 c3 c4 c5 c6 c7 HX HII HAL
        rcases hoth : othB p f i
        · have HOT := Lib.hid hoth
          clear hoth
          go_wp2_with fail
          go_ret
          exact ⟨ret_i64 (a := 8) (HBAD.out (.inr (.inl HOT.out))).symm, HX5.out.g⟩
        · have HOT := Lib.hid hoth
          clear hoth
          obtain ⟨c0, c1, c2, c3, c4, c5, c6, c7⟩ := BoxI.cells (show BoxI i (w.heap.size + 1 + 1) w5 from HX5.out.hi)
          go_wp2_with fail
          refine (show Calls Tryz.prog 55 #[.agg #[.int .i64 i.op, .int .i64 i.a, .int .i64 i.b, .int .i64 i.c, .int .i64 i.w, .int .i64 i.n, .string i.sign, .slice i.aa i.an i.ac], .int .i64 (pc : Int)] w5 _ from r8_Next_any i pc _ HQ.out w5).mono ?_
          rintro e w7 ⟨A, n, c, rfl, hIn, hg7⟩
          have HX7 := Lib.hid (HX5.out.gr hg7)
          have HL := Lib.hid hIn
          clear hIn hg7 HX5 c0 c1 c2 c3 c4 c5 c6 c7
          go_wp2_with fail
          obtain rfl : n = (nextI i ((pc : Int) + 1)).length := HL.out.1
          go_loopw [10] (fun v wr => LpRel p f i w (f.code.length : Int) A (nextI i ((pc : Int) + 1)).length c (nextI i ((pc : Int) + 1)) v wr) (fun v _ => (nextI i ((pc : Int) + 1)).length - (intOf v).toNat)
          case atStart => exact ⟨0, Nat.zero_le _, rfl, rfl, HX7.out, HL.out⟩
          case round =>
            obtain ⟨k, hkl, rfl, hall, hx, hi⟩ := hrel
            have HAL := Lib.hid hall
            have HX := Lib.hid hx
            have HII := Lib.hid hi
            have hlen : (nextI i ((pc : Int) + 1)).length ≤ maxLen := nextI_len _ _
            unfold maxLen at hlen
            clear hall
            by_cases hlt : k < (nextI i ((pc : Int) + 1)).length
            · obtain ⟨ad2, rfl, hc0⟩ := hi.at_ hlt
              have f4 : wr.cell? ⟨w.heap.size + 1, 4, none⟩ = some (.slice (some ad) f.code.length f.cc) := by have := (boxF HX.out.hf).2.2.2.2; rwa [HA.out] at this
              have HTK := Lib.hid (allB_take hlt HAL.out)
              have HNO := Lib.hid (fun h => allB_no (m := (f.code.length : Int)) hlt h)
              have hxx : ∀ x : Int, x = (nextI i ((pc : Int) + 1))[k] → (x < 0 ∨ (f.code.length : Int) ≤ x → inB x (f.code.length : Int) = false) ∧ (0 ≤ x → x < (f.code.length : Int) → inB x (f.code.length : Int) = true) := fun x _ => ⟨fun h => by unfold inB; simp; omega, fun h h' => by unfold inB; simp; omega⟩
              obtain ⟨hxo, hxi⟩ := hxx _ rfl
              generalize (nextI i ((pc : Int) + 1))[k] = x at *
              have HXO := Lib.hid hxo
              have HXI := Lib.hid hxi
              clear hxx hxo hxi hx hi
              by_cases hx0 : x < 0
              · have e1 : decide (x < 0) = true := decide_eq_true hx0
                have HZ := Lib.hid (HNO.out (HXO.out (.inl hx0)))
                clear hx0
                go_wp2_with fail
                go_quiet (fail)
                go_wp2_with fail
                go_ret
                exact ⟨ret_i64 (a := 8) (HBAD.out (.inr (.inr HZ.out))).symm, gr_drewN HX.out.g _⟩
              · by_cases hx1 : (f.code.length : Int) ≤ x
                · have e1 : decide (x < 0) = false := decide_eq_false hx0
                  have e2 : decide ((f.code.length : Int) ≤ x) = true := decide_eq_true hx1
                  have HZ := Lib.hid (HNO.out (HXO.out (.inr hx1)))
                  clear hx0 hx1
                  go_wp2_with fail
                  go_quiet (fail)
                  go_wp2_with fail
                  go_ret
                  exact ⟨ret_i64 (a := 8) (HBAD.out (.inr (.inr HZ.out))).symm, gr_drewN HX.out.g _⟩
                · have e1 : decide (x < 0) = false := decide_eq_false hx0
                  have e2 : decide ((f.code.length : Int) ≤ x) = false := decide_eq_false hx1
                  have HZ := Lib.hid (HXI.out (by omega) (by omega))
                  clear hx0 hx1
                  go_wp2_with fail
                  go_quiet (fail)
                  go_wp2_with fail
                  go_roundw
                  case rel => exact ⟨k + 1, by omega, by go_num, by rw [HTK.out, HZ.out], HX.out.gr (gr_drewN (grownBy_refl _ _) _), HII.out⟩
                  case measure => simp [intOf]; omega
            · have hkk : k = (nextI i ((pc : Int) + 1)).length := by omega
              subst hkk
              have HZ := Lib.hid (show allB (f.code.length : Int) (nextI i ((pc : Int) + 1)) = true by have h := HAL.out; rwa [List.take_length] at h)
              clear hx hi
              go_wp2_with fail
              go_ret
              exact ⟨ret_i64 (a := 0) (HGOOD.out HZ1.out HOT.out HZ.out).symm, HX.out.g⟩

end Go.Proofs.YtajmkdbokdjmeaaGreat
