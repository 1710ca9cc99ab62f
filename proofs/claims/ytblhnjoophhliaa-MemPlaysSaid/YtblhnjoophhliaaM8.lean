/- mem: Load, Store. -/
import Derived.Test.YtblhnjoophhliaaM7
namespace Go.Proofs.Ytblhnjoophhliaa
open Go.RowKit
/-- Only the memory's own blocks, and what is new, have turned. -/
structure Fr (w w' : World) (a : Nat) (row : Value) (L : List (Nat × Blk)) : Prop where
  os : w'.os = w.os
  tape : w'.tape = w.tape
  output : w'.output = w.output
  size : w.heap.size ≤ w'.heap.size
  block : ∀ k, k < w.heap.size → ¬ Foot a row L k → w'.heap[k]? = w.heap[k]?
theorem Fr.of_gr {w w' : World} {a : Nat} {row : Value} {L : List (Nat × Blk)} (h : w.grownBy w' none) : Fr w w' a row L := ⟨h.os, h.tape, h.output, h.size, fun k hk _ => h.block k hk (by simp)⟩
theorem Fr.of_own {w w' : World} {a g : Nat} {row : Value} {L : List (Nat × Blk)} (h : w.grownBy w' (some g)) (hg : Foot a row L g) : Fr w w' a row L :=
  ⟨h.os, h.tape, h.output, h.size, fun k hk hn => h.block k hk (fun e => hn (by injection e with e; rw [e]; exact hg))⟩
theorem Fr.pre {w w1 w' : World} {a : Nat} {row : Value} {L : List (Nat × Blk)} (g : w.grownBy w1 none) (h : Fr w1 w' a row L) : Fr w w' a row L :=
  ⟨h.os.trans g.os, h.tape.trans g.tape, h.output.trans g.output, Nat.le_trans g.size h.size, fun k hk hn => (h.block k (Nat.lt_of_lt_of_le hk g.size) hn).trans (g.block k hk (by simp))⟩
theorem Fr.post {w w1 w' : World} {a : Nat} {row : Value} {L : List (Nat × Blk)} (h : Fr w w1 a row L) (g : w1.grownBy w' none) : Fr w w' a row L :=
  ⟨g.os.trans h.os, g.tape.trans h.tape, g.output.trans h.output, Nat.le_trans h.size g.size, fun k hk hn => (g.block k (Nat.lt_of_lt_of_le hk h.size) (by simp)).trans (h.block k hk hn)⟩
theorem foot_mem {a : Nat} {row : Value} {L : List (Nat × Blk)} {k : Nat} {x : Nat × Blk} (h : L[k]? = some x) : Foot a row L x.1 := .inr (.inr ⟨x, List.mem_of_getElem? h, rfl⟩)
def putB (x : Nat × Blk) (M : List Byt) : Nat × Blk := (x.1, { x.2 with bytes := M })
theorem flat_same {L : List (Nat × Blk)} {k : Nat} {x : Nat × Blk} (hx : L[k]? = some x) {M : List Byt} (hl : M.length = x.2.bytes.length) : flatC rowC (L.set k (putB x M)) = flatC rowC L := by
  have hk : k < L.length := (List.getElem?_eq_some_iff.1 hx).1
  obtain ⟨c1, c2, _, e1, e2⟩ := flat_set rowC_size hk (putB x M)
  have hxx : L[k] = x := (List.getElem?_eq_some_iff.1 hx).2
  rw [e1, e2, hxx]
  unfold putB rowC
  dsimp only
  rw [hl]
theorem MemAt.write {w w' : World} {B a : Nat} {row : Value} {L : List (Nat × Blk)} (h : MemAt w B a row L) {k : Nat} {x : Nat × Blk} (hx : L[k]? = some x) {M : List Byt} (hl : M.length = x.2.bytes.length) (hb : Byts M) (hM : BytesAt w' x.1 M) (g : w.grownBy w' (some x.1)) :
    MemAt w' B a row (L.set k (putB x M)) := by
  have hxm := List.mem_of_getElem? hx
  have hk : k < L.length := (List.getElem?_eq_some_iff.1 hx).1
  have hxb := (h.bytes x hxm).1
  have ne : ∀ {i : Nat} {cs : Array Value} {t : TypeId}, w.heap[i]? = some (.cells cs t (0, 0)) → t ≠ 67 → some i ≠ some x.1 := by
    intro i cs t hi ht e
    injection e with e
    subst e
    rw [show w.heap[x.1]? = _ from hxb] at hi
    injection hi with hi
    injection hi with _ hi
    exact ht hi.symm
  refine ⟨(g.block a (lt_of_heap h.head) (ne h.head (by decide))).trans h.head, ?_, ?_, ?_, by rw [List.length_set]; exact h.small, h.base⟩
  · rw [List.length_set, flat_same hx hl]
    refine ⟨h.rows.1, h.rows.2.imp id ?_⟩
    rintro ⟨r, cap, cur, e, hg, hh, q⟩
    exact ⟨r, cap, cur, e, hg, (g.block r (lt_of_heap hh) (ne hh (by decide))).trans hh, q⟩
  · intro y hy
    rcases List.mem_or_eq_of_mem_set hy with hy' | rfl
    · obtain ⟨j, hj⟩ := List.mem_iff_getElem?.1 hy
      by_cases hjk : k = j
      · subst hjk
        rw [List.getElem?_set_self hk] at hj
        injection hj with hj
        subst hj
        exact ⟨hM, (h.bytes x hxm).2.1, by show M.length ≤ 4096; rw [hl]; exact (h.bytes x hxm).2.2.1, hb⟩
      · rw [List.getElem?_set_ne hjk] at hj
        have hne : y.1 ≠ x.1 := by
          intro e
          have h1 : (L.map (·.1))[j]? = some y.1 := by rw [List.getElem?_map, hj]; rfl
          have h2 : (L.map (·.1))[k]? = some x.1 := by rw [List.getElem?_map, hx]; rfl
          have hjl : j < (L.map (·.1)).length := (List.getElem?_eq_some_iff.1 h1).1
          have hkl : k < (L.map (·.1)).length := (List.getElem?_eq_some_iff.1 h2).1
          exact hjk ((List.getElem?_inj hkl h.apart).1 (by rw [h1, h2, e]))
        obtain ⟨b1, b2⟩ := h.bytes y hy'
        exact ⟨b1.gr g (fun e => hne (by injection e)), b2⟩
    · exact ⟨hM, (h.bytes x hxm).2.1, by show M.length ≤ 4096; rw [hl]; exact (h.bytes x hxm).2.2.1, hb⟩
  · have e : (L.set k (putB x M)).map (·.1) = L.map (·.1) := by
      rw [List.map_set]
      show (L.map (·.1)).set k x.1 = _
      have : (L.map (·.1))[k]? = some x.1 := by rw [List.getElem?_map, hx]; rfl
      apply List.ext_getElem?
      intro j
      by_cases hjk : k = j
      · subst hjk; rw [List.getElem?_set_self (by simpa using hk), this]
      · rw [List.getElem?_set_ne hjk]
    rw [e]; exact h.apart
theorem MemAt.same {w w' : World} {B a : Nat} {row : Value} {L : List (Nat × Blk)} (h : MemAt w B a row L) {k : Nat} {x : Nat × Blk} (hx : L[k]? = some x) (hM : BytesAt w' x.1 x.2.bytes) (g : w.grownBy w' (some x.1)) : MemAt w' B a row L := by
  have := h.write hx rfl (h.bytes x (List.mem_of_getElem? hx)).2.2.2 hM g
  have e : L.set k (putB x x.2.bytes) = L := by
    obtain ⟨hk, hxx⟩ := List.getElem?_eq_some_iff.1 hx
    show L.set k x = L
    rw [← hxx]
    exact List.set_getElem_self hk
  rwa [e] at this
/-- Two values of the call's own, one behind the other. -/
structure P2 (w : World) (p q : Val) (W : World) : Prop where
  b0 : VBox W w.heap.size p
  b1 : VBox W (w.heap.size + 1) q
  gr : w.grownBy W none
theorem P2.grown {w a b : World} {p q : Val} (h : P2 w p q a) (g : a.grownBy b none) : P2 w p q b := ⟨h.b0.gr g (by simp), h.b1.gr g (by simp), grownBy_trans h.gr g⟩
theorem P2.drew {w a : World} {p q : Val} (h : P2 w p q a) : P2 w p q a.drew := ⟨h.b0, h.b1, h.gr.gr_drew⟩
theorem P2.r0 {w W : World} {n b f : Int} {q : Val} (h : P2 w ⟨n, b, f⟩ q W) : W.cell? ⟨w.heap.size, 0, none⟩ = some (.int .i64 n) ∧ W.cell? ⟨w.heap.size, 1, none⟩ = some (.int .i64 b) ∧ W.cell? ⟨w.heap.size, 2, none⟩ = some (.int .i64 f) ∧
    W.frozen? ⟨w.heap.size, 0, none⟩ = false ∧ W.frozen? ⟨w.heap.size, 1, none⟩ = false ∧ W.frozen? ⟨w.heap.size, 2, none⟩ = false ∧ w.heap.size + 1 < W.heap.size :=
  ⟨h.b0.cells.1, h.b0.cells.2.1, h.b0.cells.2.2, h.b0.froz 0, h.b0.froz 1, h.b0.froz 2, lt_of_heap h.b1⟩
theorem P2.r1 {w W : World} {n b f : Int} {q : Val} (h : P2 w q ⟨n, b, f⟩ W) : W.cell? ⟨w.heap.size + 1, 0, none⟩ = some (.int .i64 n) ∧ W.cell? ⟨w.heap.size + 1, 1, none⟩ = some (.int .i64 b) ∧ W.cell? ⟨w.heap.size + 1, 2, none⟩ = some (.int .i64 f) ∧
    W.frozen? ⟨w.heap.size + 1, 0, none⟩ = false ∧ W.frozen? ⟨w.heap.size + 1, 1, none⟩ = false ∧ W.frozen? ⟨w.heap.size + 1, 2, none⟩ = false :=
  ⟨h.b1.cells.1, h.b1.cells.2.1, h.b1.cells.2.2, h.b1.froz 0, h.b1.froz 1, h.b1.froz 2⟩
theorem P2.new (w : World) (n b f n' b' f' : Int) : P2 w ⟨n, b, f⟩ ⟨n', b', f'⟩ ((w.alloc (.cells #[.int .i64 n, .int .i64 b, .int .i64 f] 29)).alloc (.cells #[.int .i64 n', .int .i64 b', .int .i64 f'] 29)) :=
  ⟨VBox.gr (r := none) (VBox.new w ⟨n, b, f⟩) (gr_alloc (grownBy_refl _ _) _) (by simp), (show _ = _ by have := heap_alloc_new (w.alloc (.cells #[.int .i64 n, .int .i64 b, .int .i64 f] 29)) (.cells #[.int .i64 n', .int .i64 b', .int .i64 f'] 29); simpa [valC] using this), gr_alloc (gr_alloc (grownBy_refl _ _) _) _⟩
/-- What Load answers. -/
def decR (b : Byt) (l : List Byt) : Val × Int := if (decP b l).2 = true then ((decP b l).1, 0) else (val0, 9)
def loadP (L : List (Nat × Blk)) (p : Val) (w : Int) : Val × Int :=
  if widB w = false then (val0, 1) else
  match cutI L p w with
  | none => (val0, 9)
  | some k => match L[k]? with
    | none => (val0, 9)
    | some x => match x.2.bytes[p.n.toNat]? with
      | none => (val0, 9)
      | some b => decR b (segL x.2.bytes p.n.toNat w.toNat)
theorem widB_true {w : Int} (h : widB w = true) : ∃ n : Nat, w = n ∧ 1 ≤ n ∧ n ≤ 8 := by
  unfold widB at h
  have h := of_decide_eq_true h
  exact ⟨w.toNat, by omega, by omega, by omega⟩
set_option maxRecDepth 100000 in
set_option maxHeartbeats 4000000 in
theorem load_arg (m p : Value) (q : Val) (hp : p = valV q) (n : Int) (w : World) (hw : widB n = false) :
    Calls Try.prog 17 #[m, p, .int .i64 n] w fun e w' => e = .returned (.tuple #[valV val0, .int .i64 1]) ∧ w.grownBy w' none := by
  subst hp
  have HW := Lib.hid hw
  obtain ⟨pn, pb, pf⟩ := q
  unfold valV valC
  dsimp only
  clear hw
  go_enter Try.func17, Try.ntmps17
  go_wp2_with fail
  refine (isWidth_any _ _).mono ?_
  rintro e w0 ⟨rfl, rfl⟩
  rw [HW.out]
  go_wp2_with fail
  exact bodyPost_ret (v := .tuple #[.agg #[.int .i64 0, .int .i64 0, .int .i64 0], .int .i64 1]) (by simp [results, Try.results17, go_sem]) rfl ⟨rfl, by repeat (first | with_reducible exact grownBy_refl _ _ | with_reducible assumption | with_reducible refine World.grownBy.gr_drew ?_ | with_reducible refine World.grownBy.gr_set ?_ (by simp) _ | with_reducible refine gr_alloc ?_ _)⟩
set_option maxRecDepth 100000 in
set_option maxHeartbeats 4000000 in
theorem load_undef (m p : Value) (q : Val) (hp : p = valV q) (n : Int) (w : World) (hw : widB n = true)
    (hc : ∀ W, w.grownBy W none → Calls Try.prog 36 #[m, valV q, .int .i64 n] W fun e w' => e = .returned (.tuple #[.slice none 0 0, .bool false]) ∧ W.grownBy w' none) :
    Calls Try.prog 17 #[m, p, .int .i64 n] w fun e w' => e = .returned (.tuple #[valV val0, .int .i64 9]) ∧ w.grownBy w' none := by
  subst hp
  have HW := Lib.hid hw
  have HC := Lib.hid hc
  obtain ⟨pn, pb, pf⟩ := q
  unfold valV valC at *
  dsimp only at *
  have HV0 := Lib.hid (P2.new w pn pb pf 0 0 0)
  clear hw hc
  go_enter Try.func17, Try.ntmps17
  go_wp2_with fail
  refine (isWidth_any _ _).mono ?_
  rintro e w0 ⟨rfl, rfl⟩
  rw [HW.out]
  go_wp2_with fail
  refine (HC.out _ (by repeat (first | with_reducible exact grownBy_refl _ _ | with_reducible assumption | with_reducible refine World.grownBy.gr_drew ?_ | with_reducible refine World.grownBy.gr_set ?_ (by simp) _ | with_reducible refine gr_alloc ?_ _))).mono ?_
  rintro e w1 ⟨rfl, g1⟩
  have HV1 := Lib.hid (HV0.out.grown g1)
  clear g1
  obtain ⟨x0, x1, x2, f0, f1, f2⟩ := P2.r1 HV1.out
  go_wp2_with fail
  exact bodyPost_ret (v := .tuple #[.agg #[.int .i64 0, .int .i64 0, .int .i64 0], .int .i64 9]) (by simp [results, Try.results17, go_sem, x0, x1, x2]) rfl ⟨rfl, by have := HV1.out.gr; repeat (first | with_reducible exact grownBy_refl _ _ | with_reducible assumption | with_reducible refine World.grownBy.gr_drew ?_ | with_reducible refine World.grownBy.gr_set ?_ (by simp) _ | with_reducible refine gr_alloc ?_ _)⟩
set_option maxRecDepth 100000 in
set_option maxHeartbeats 4000000 in
theorem load_yes {B a : Nat} {row : Value} {L : List (Nat × Blk)} (p : Val) (n k : Nat) (w : World) (h : MemAt w B a row L) (hw : widB n = true) (h1 : 1 ≤ n) (h8 : n ≤ 8) (hc : cutI L p n = some k) {x : Nat × Blk} (hx : L[k]? = some x) {b : Byt} (hb : x.2.bytes[p.n.toNat]? = some b) :
    Calls Try.prog 17 #[.pointer (some ⟨a, 0, none⟩), valV p, .int .i64 n] w fun e w' => e = .returned (.tuple #[valV (decR b (segL x.2.bytes p.n.toNat n)).1, .int .i64 (decR b (segL x.2.bytes p.n.toNat n)).2]) ∧ w.grownBy w' none := by
  have HW := Lib.hid hw
  have HC := Lib.hid (fun W (hW : MemAt W B a row L) => cut_yes p n k W hW hc (by omega) hx)
  have HM := Lib.hid h
  have HY := Lib.hid (h.bytes x (List.mem_of_getElem? hx)).2.2.2
  have HX := Lib.hid (List.mem_of_getElem? hx)
  have HD := Lib.hid (fun (W : World) (o : Nat) (hW : BytesAt W x.1 x.2.bytes) (ho : o + n ≤ x.2.bytes.length) (hpo : p.n = o) => decode_any x.1 o n n x.2.bytes W hW ho h1 h8 HY.out b (by rw [hpo] at hb; exact hb))
  obtain ⟨pn, pb, pf⟩ := p
  unfold valV valC at *
  dsimp only at *
  have HV0 := Lib.hid (P2.new w pn pb pf 0 0 0)
  clear hw hc h hx hb
  go_enter Try.func17, Try.ntmps17
  go_wp2_with fail
  refine (isWidth_any _ _).mono ?_
  rintro e w0 ⟨rfl, rfl⟩
  rw [HW.out]
  go_wp2_with fail
  refine (HC.out _ (HM.out.gr (by repeat (first | with_reducible exact grownBy_refl _ _ | with_reducible assumption | with_reducible refine World.grownBy.gr_drew ?_ | with_reducible refine World.grownBy.gr_set ?_ (by simp) _ | with_reducible refine gr_alloc ?_ _)))).mono ?_
  rintro e w1 ⟨o, rfl, ho, hpo, g1⟩
  have HV1 := Lib.hid (HV0.out.grown g1)
  obtain rfl := hpo (by omega)
  clear g1 hpo
  go_wp2_with fail
  refine (HD.out w1 o ((HM.out.gr HV1.out.gr).bytes x HX.out).1 ho rfl).mono ?_
  rintro e w2 ⟨rfl, g2⟩
  have HV2 := Lib.hid (HV1.out.grown g2)
  clear g2 HV1 HC HD
  generalize hr : decP b (segL x.2.bytes o n) = r at *
  have HR := Lib.hid hr
  clear hr
  obtain ⟨⟨rn, rb, rf⟩, r2⟩ := r
  obtain ⟨x0, x1, x2, f0, f1, f2⟩ := P2.r1 HV2.out
  obtain ⟨_, _, _, _, _, _, hz⟩ := P2.r0 HV2.out
  cases r2
  · have HE := Lib.hid (show decR b (segL x.2.bytes o n) = (val0, 9) from by unfold decR; rw [HR.out]; rfl)
    go_wp2_with fail
    exact bodyPost_ret (v := .tuple #[.agg #[.int .i64 0, .int .i64 0, .int .i64 0], .int .i64 9]) (by simp [results, Try.results17, go_sem, x0, x1, x2, hz]) rfl ⟨by rw [Int.toNat_natCast, HE.out]; rfl, by have := HV2.out.gr; repeat (first | with_reducible exact grownBy_refl _ _ | with_reducible assumption | with_reducible refine World.grownBy.gr_drew ?_ | with_reducible refine World.grownBy.gr_set ?_ (by simp) _ | with_reducible refine gr_alloc ?_ _)⟩
  · have HE := Lib.hid (show decR b (segL x.2.bytes o n) = (⟨rn, rb, rf⟩, 0) from by unfold decR; rw [HR.out]; rfl)
    go_wp2_with fail
    exact bodyPost_ret (v := .tuple #[.agg #[.int .i64 rn, .int .i64 rb, .int .i64 rf], .int .i64 0]) (by simp [results, Try.results17, go_sem, x0, x1, x2, hz]) rfl ⟨by rw [Int.toNat_natCast, HE.out], by have := HV2.out.gr; repeat (first | with_reducible exact grownBy_refl _ _ | with_reducible assumption | with_reducible refine World.grownBy.gr_drew ?_ | with_reducible refine World.grownBy.gr_set ?_ (by simp) _ | with_reducible refine gr_alloc ?_ _)⟩

theorem cut_at {L : List (Nat × Blk)} {p : Val} {n k : Nat} (hc : cutI L p n = some k) (h1 : 1 ≤ n) : ∃ x b, L[k]? = some x ∧ x.2.bytes[p.n.toNat]? = some b ∧ p.n.toNat + n ≤ x.2.bytes.length := by
  obtain ⟨hf, hp, x, hx, hv, hw⟩ := cutI_some hc
  obtain ⟨o, ho, hon⟩ := witB_nat hw
  rw [ho]
  exact ⟨x, _, hx, List.getElem?_eq_getElem (by simp; omega), by simpa using hon⟩
theorem load_any {B a : Nat} {row : Value} {L : List (Nat × Blk)} (p : Val) (n : Int) (w : World) (h : MemAt w B a row L) :
    Calls Try.prog 17 #[.pointer (some ⟨a, 0, none⟩), valV p, .int .i64 n] w fun e w' => e = .returned (.tuple #[valV (loadP L p n).1, .int .i64 (loadP L p n).2]) ∧ w.grownBy w' none := by
  unfold loadP
  rcases hw : widB n
  · rw [if_pos rfl]
    exact load_arg _ _ p rfl n w hw
  · rw [if_neg (by simp)]
    obtain ⟨m, rfl, h1, h8⟩ := widB_true hw
    rcases hc : cutI L p m with _ | k
    · exact load_undef _ _ p rfl m w hw fun W hW => cut_no p m W (h.gr hW) hc
    · obtain ⟨x, b, hx, hb, ho⟩ := cut_at hc h1
      simp only [hx, hb]
      exact load_yes p m k w h hw h1 h8 hc hx hb
theorem load_nobody (p : Val) (n : Int) (w : World) (hw : widB n = true) :
    Calls Try.prog 17 #[.pointer none, valV p, .int .i64 n] w fun e w' => e = .returned (.tuple #[valV val0, .int .i64 9]) ∧ w.grownBy w' none :=
  load_undef _ _ p rfl n w hw fun W _ => cut_nil p n W
/-- What Store answers, and the blocks behind it. -/
def storeP (L : List (Nat × Blk)) (p : Val) (w : Int) (v : Val) : List (Nat × Blk) × Int :=
  if widB w = false then (L, 1) else
  match cutI L p w with
  | none => (L, 9)
  | some k => match L[k]? with
    | none => (L, 9)
    | some x => match encP w.toNat v with
      | none => (L, 9)
      | some l => (L.set k (putB x (splice x.2.bytes p.n.toNat l)), 0)
theorem byteOf_byte (n : Int) (i : Nat) : 0 ≤ byteOf n i ∧ byteOf n i < 256 := by unfold byteOf; omega
theorem encP_len {n : Nat} {v : Val} {l : List Byt} (h : encP n v = some l) : l.length = n := by
  unfold encP at h
  split at h
  · injection h with h; subst h; exact numL_len _ _
  · split at h
    · rename_i hc; injection h with h; subst h; rw [ptrL_len]; exact hc.2.symm
    · split at h
      · rename_i hc; injection h with h; subst h; rw [hc.2]; rfl
      · cases h
theorem encP_byts {n : Nat} {v : Val} {l : List Byt} (h : encP n v = some l) : Byts l := by
  unfold encP at h
  intro b hb
  split at h
  · injection h with h; subst h
    obtain ⟨i, _, rfl⟩ := List.mem_map.1 hb
    exact byteOf_byte _ _
  · split at h
    · injection h with h; subst h
      obtain ⟨i, _, rfl⟩ := List.mem_map.1 hb
      exact ⟨Int.le_refl _, by show (0 : Int) < 256; omega⟩
    · split at h
      · injection h with h; subst h
        obtain rfl := List.mem_singleton.1 hb
        exact ⟨Int.le_refl _, by show (0 : Int) < 256; omega⟩
      · cases h
theorem splice_byts {M l : List Byt} (hM : Byts M) (hl : Byts l) (o : Nat) : Byts (splice M o l) := by
  intro b hb
  unfold splice at hb
  rcases List.mem_append.1 hb with h | h
  · exact hM b (List.mem_of_mem_take h)
  · rcases List.mem_append.1 h with h | h
    · exact hl b h
    · exact hM b (List.mem_of_mem_drop h)
set_option maxRecDepth 100000 in
set_option maxHeartbeats 4000000 in
theorem store_arg (m : Value) (p v : Val) (n : Int) (w : World) (hw : widB n = false) :
    Calls Try.prog 19 #[m, valV p, .int .i64 n, valV v] w fun e w' => e = .returned (.int .i64 1) ∧ w.grownBy w' none := by
  have HW := Lib.hid hw
  obtain ⟨pn, pb, pf⟩ := p
  obtain ⟨vn, vb, vf⟩ := v
  unfold valV valC
  dsimp only
  clear hw
  go_enter Try.func19, Try.ntmps19
  go_wp2_with fail
  refine (isWidth_any _ _).mono ?_
  rintro e w0 ⟨rfl, rfl⟩
  rw [HW.out]
  go_wp2_with fail
  go_ret
  exact ⟨rfl, by repeat (first | with_reducible exact grownBy_refl _ _ | with_reducible assumption | with_reducible refine World.grownBy.gr_drew ?_ | with_reducible refine World.grownBy.gr_set ?_ (by simp) _ | with_reducible refine gr_alloc ?_ _)⟩
set_option maxRecDepth 100000 in
set_option maxHeartbeats 4000000 in
theorem store_undef (m : Value) (p v : Val) (n : Int) (w : World) (hw : widB n = true)
    (hc : ∀ W, w.grownBy W none → Calls Try.prog 36 #[m, valV p, .int .i64 n] W fun e w' => e = .returned (.tuple #[.slice none 0 0, .bool false]) ∧ W.grownBy w' none) :
    Calls Try.prog 19 #[m, valV p, .int .i64 n, valV v] w fun e w' => e = .returned (.int .i64 9) ∧ w.grownBy w' none := by
  have HW := Lib.hid hw
  have HC := Lib.hid hc
  obtain ⟨pn, pb, pf⟩ := p
  obtain ⟨vn, vb, vf⟩ := v
  unfold valV valC at *
  dsimp only at *
  have HV0 := Lib.hid (P2.new w pn pb pf vn vb vf)
  clear hw hc
  go_enter Try.func19, Try.ntmps19
  go_wp2_with fail
  refine (isWidth_any _ _).mono ?_
  rintro e w0 ⟨rfl, rfl⟩
  rw [HW.out]
  go_wp2_with fail
  refine (HC.out _ (by repeat (first | with_reducible exact grownBy_refl _ _ | with_reducible assumption | with_reducible refine World.grownBy.gr_drew ?_ | with_reducible refine World.grownBy.gr_set ?_ (by simp) _ | with_reducible refine gr_alloc ?_ _))).mono ?_
  rintro e w1 ⟨rfl, g1⟩
  have HV1 := Lib.hid (HV0.out.grown g1)
  clear g1
  go_wp2_with fail
  go_ret
  exact ⟨rfl, HV1.out.gr⟩
set_option maxRecDepth 100000 in
set_option maxHeartbeats 4000000 in
theorem store_yes {B a : Nat} {row : Value} {L : List (Nat × Blk)} (p v : Val) (n k : Nat) (w : World) (h : MemAt w B a row L) (hw : widB n = true) (h1 : 1 ≤ n) (h8 : n ≤ 8) (hc : cutI L p n = some k) {x : Nat × Blk} (hx : L[k]? = some x) :
    Calls Try.prog 19 #[.pointer (some ⟨a, 0, none⟩), valV p, .int .i64 n, valV v] w fun e w' => e = .returned (.int .i64 (if (encP n v).isSome then 0 else 9)) ∧ BytesAt w' x.1 (((encP n v).map (splice x.2.bytes p.n.toNat)).getD x.2.bytes) ∧ w.grownBy w' (some x.1) := by
  have HW := Lib.hid hw
  have HC := Lib.hid (fun W (hW : MemAt W B a row L) => cut_yes p n k W hW hc (by omega) hx)
  have HM := Lib.hid h
  have HX := Lib.hid (List.mem_of_getElem? hx)
  have HD := Lib.hid (fun (W : World) (o : Nat) (hW : BytesAt W x.1 x.2.bytes) (ho : o + n ≤ x.2.bytes.length) => encode_any x.1 o n n v x.2.bytes W hW ho h8)
  obtain ⟨pn, pb, pf⟩ := p
  generalize encP n v = r at *
  obtain ⟨vn, vb, vf⟩ := v
  unfold valV valC at *
  dsimp only at *
  have HV0 := Lib.hid (P2.new w pn pb pf vn vb vf)
  clear hw hc h hx
  go_enter Try.func19, Try.ntmps19
  go_wp2_with fail
  refine (isWidth_any _ _).mono ?_
  rintro e w0 ⟨rfl, rfl⟩
  rw [HW.out]
  go_wp2_with fail
  refine (HC.out _ (HM.out.gr (by repeat (first | with_reducible exact grownBy_refl _ _ | with_reducible assumption | with_reducible refine World.grownBy.gr_drew ?_ | with_reducible refine World.grownBy.gr_set ?_ (by simp) _ | with_reducible refine gr_alloc ?_ _)))).mono ?_
  rintro e w1 ⟨o, rfl, ho, hpo, g1⟩
  have HV1 := Lib.hid (HV0.out.grown g1)
  obtain rfl := hpo (by omega)
  clear g1 hpo
  obtain ⟨x0, x1, x2, f0, f1, f2⟩ := P2.r1 HV1.out
  go_wp2_with fail
  refine (HD.out w1 o ((HM.out.gr HV1.out.gr).bytes x HX.out).1 ho).mono ?_
  rintro e w2 ⟨rfl, hb, g2⟩
  have HG2 := Lib.hid (grownBy_trans (gr_to HV1.out.gr) g2)
  have HB := Lib.hid hb
  clear g2 hb HV1 HC HD x0 x1 x2 f0 f1 f2
  rcases r with _ | l
  · simp only [Option.isSome_none]
    go_wp2_with fail
    go_ret
    exact ⟨rfl, HB.out, HG2.out⟩
  · simp only [Option.isSome_some]
    go_wp2_with fail
    go_ret
    exact ⟨rfl, HB.out, HG2.out⟩
theorem store_any {B a : Nat} {row : Value} {L : List (Nat × Blk)} (p v : Val) (n : Int) (w : World) (h : MemAt w B a row L) :
    Calls Try.prog 19 #[.pointer (some ⟨a, 0, none⟩), valV p, .int .i64 n, valV v] w fun e w' => e = .returned (.int .i64 (storeP L p n v).2) ∧ MemAt w' B a row (storeP L p n v).1 ∧ Fr w w' a row L := by
  unfold storeP
  rcases hw : widB n
  · rw [if_pos rfl]
    exact (store_arg _ p v n w hw).mono fun e w' hh => ⟨hh.1, h.gr hh.2, Fr.of_gr hh.2⟩
  · rw [if_neg (by simp)]
    obtain ⟨m, rfl, h1, h8⟩ := widB_true hw
    rcases hc : cutI L p m with _ | k
    · exact (store_undef _ p v m w hw fun W hW => cut_no p m W (h.gr hW) hc).mono fun e w' hh => ⟨hh.1, h.gr hh.2, Fr.of_gr hh.2⟩
    · obtain ⟨x, b, hx, hb, ho⟩ := cut_at hc h1
      refine (store_yes p v m k w h hw h1 h8 hc hx).mono fun e w' ⟨he, hB, hg⟩ => ?_
      simp only [hx, Int.toNat_natCast]
      rcases hv : encP m v with _ | l
      · rw [hv] at he hB
        exact ⟨he, h.same hx hB hg, Fr.of_own hg (foot_mem hx)⟩
      · rw [hv] at he hB
        have hl := encP_len hv
        exact ⟨he, h.write hx (splice_len _ _ _ (by rw [hl]; exact ho)) (splice_byts (h.bytes x (List.mem_of_getElem? hx)).2.2.2 (encP_byts hv) _) hB hg, Fr.of_own hg (foot_mem hx)⟩

end Go.Proofs.Ytblhnjoophhliaa
