/- The document's memory in memory; Is, May, access. -/
import Derived.Test.YtblhnjoophhliaaM16
namespace Go.Proofs.Ytblhnjoophhliaa
open Go.RowKit
structure RB where
  site : Int
  bytes : List Byt
  ended : Bool
  ad : Option Addr
  cap : Nat
def rbC (x : RB) : Array Value := #[.int .i64 x.site, .slice x.ad x.bytes.length x.cap, .bool x.ended]
def rbV (x : RB) : Value := .agg (rbC x)
theorem rbC_size (x : RB) : (rbC x).size = 3 := rfl
def rbB (x : RB) : Blk := ⟨x.site, !x.ended, x.bytes⟩
def rsB (rs : List RB) : List Blk := rs.map rbB
/-- The document's list of blocks: where it lies, and that it may be read; S: in which blocks. -/
structure RefAt (S : Nat → Prop) (W : World) (ad : Option Addr) (rs : List RB) : Prop where
  row : rs = [] ∨ ∃ g, ad = some ⟨g, 0, none⟩ ∧ S g ∧ ∀ i x, rs[i]? = some x → ∀ q, q < 3 → W.cell? ⟨g, i * 3 + q, none⟩ = (rbC x)[q]?
  each : ∀ x ∈ rs, RdAt W x.ad x.bytes ∧ (∀ g, x.ad = some ⟨g, 0, none⟩ → S g) ∧ x.bytes.length ≤ 4096 ∧ Byts x.bytes ∧ ((x.ad = none → x.cap = 0) ∧ x.bytes.length ≤ x.cap)
  lt : ∀ k, S k → k < W.heap.size
  small : rs.length ≤ 2000
theorem RefAt.keep {S : Nat → Prop} {W W' : World} {ad : Option Addr} {rs : List RB} (h : RefAt S W ad rs) (hs : W.heap.size ≤ W'.heap.size) (k : ∀ i, S i → W'.heap[i]? = W.heap[i]?) : RefAt S W' ad rs where
  row := h.row.imp id (by
    rintro ⟨g, e, hg, hc⟩
    exact ⟨g, e, hg, fun i x hx q hq => (World.cell?_of_block (a := ⟨g, i * 3 + q, none⟩) (k g hg)).trans (hc i x hx q hq)⟩)
  each := fun x hx => ⟨(h.each x hx).1.keep fun g hg _ => k g ((h.each x hx).2.1 g hg), (h.each x hx).2⟩
  lt := fun i hi => Nat.lt_of_lt_of_le (h.lt i hi) hs
  small := h.small
theorem RefAt.gr {S : Nat → Prop} {W W' : World} {ad : Option Addr} {rs : List RB} (h : RefAt S W ad rs) (g : W.grownBy W' none) : RefAt S W' ad rs := h.keep g.size fun i hi => g.block i (h.lt i hi) (by simp)
theorem RefAt.mono {S S' : Nat → Prop} {W : World} {ad : Option Addr} {rs : List RB} (h : RefAt S W ad rs) (hs : ∀ k, S k → S' k) (hl : ∀ k, S' k → k < W.heap.size) : RefAt S' W ad rs where
  row := h.row.imp id (by rintro ⟨g, e, hg, hc⟩; exact ⟨g, e, hs g hg, hc⟩)
  each := fun x hx => ⟨(h.each x hx).1, fun g hg => hs g ((h.each x hx).2.1 g hg), (h.each x hx).2.2⟩
  lt := hl
  small := h.small
theorem RefAt.nil (W : World) : RefAt (fun _ => False) W none [] := ⟨.inl rfl, (fun _ h => by cases h), (fun _ h => False.elim h), by simp⟩
theorem RefAt.cells {S : Nat → Prop} {W : World} {ad : Option Addr} {rs : List RB} (h : RefAt S W ad rs) {k : Nat} {x : RB} (hx : rs[k]? = some x) : ∃ g, ad = some ⟨g, 0, none⟩ ∧ g < W.heap.size ∧
    W.cell? ⟨g, k * 3, none⟩ = some (.int .i64 x.site) ∧ W.cell? ⟨g, k * 3 + 1, none⟩ = some (.slice x.ad x.bytes.length x.cap) ∧ W.cell? ⟨g, k * 3 + 2, none⟩ = some (.bool x.ended) := by
  rcases h.row with rfl | ⟨g, e, hg, hc⟩
  · simp at hx
  · have := hc k x hx
    exact ⟨g, e, h.lt g hg, this 0 (by omega), this 1 (by omega), this 2 (by omega)⟩
def cutB (bs : List Blk) (p : Val) (n : Int) : Option Nat :=
  match findI bs.length p.b with
  | none => none
  | some k => match bs[k]? with
    | none => none
    | some x => if ptrB p = true ∧ x.live = true ∧ witB x.bytes.length p.n n = true then some k else none
theorem cut_B (L : List (Nat × Blk)) (p : Val) (n : Int) : cutI L p n = cutB (L.map (·.2)) p n := by
  unfold cutI cutB
  rw [List.length_map]
  rcases findI L.length p.b with _ | k
  · rfl
  · simp only [List.getElem?_map]
    rcases L[k]? with _ | x <;> rfl
set_option maxRecDepth 100000 in
set_option maxHeartbeats 2000000 in
theorem Is_any (ad : Option Addr) (len cap : Nat) (n : Int) (w : World) :
    Calls Try.prog 29 #[.slice ad len cap, .int .i64 n] w fun e w' => e = .returned (.bool (findI len n).isSome) ∧ w = w' := by
  unfold findI
  by_cases h0 : 1 ≤ n
  · by_cases h1 : n ≤ len
    · rw [if_pos ⟨h0, h1⟩]
      go_enter Try.func29, Try.ntmps29
      go_wp2_with fail
      go_ret
      exact ⟨rfl, rfl⟩
    · rw [if_neg (fun h => h1 h.2)]
      go_enter Try.func29, Try.ntmps29
      go_wp2_with fail
      go_ret
      exact ⟨rfl, rfl⟩
  · rw [if_neg (fun h => h0 h.1)]
    go_enter Try.func29, Try.ntmps29
    go_wp2_with fail
    go_ret
    exact ⟨rfl, rfl⟩
theorem rsB_len (rs : List RB) : (rsB rs).length = rs.length := List.length_map _
theorem rsB_at (rs : List RB) (k : Nat) : (rsB rs)[k]? = (rs[k]?).map rbB := List.getElem?_map ..
theorem cutB_rs (rs : List RB) (p : Val) (n : Int) : cutB (rsB rs) p n = match findI rs.length p.b with
    | none => none
    | some k => match rs[k]? with
      | none => none
      | some x => if ptrB p = true ∧ x.ended = false ∧ witB x.bytes.length p.n n = true then some k else none := by
  unfold cutB
  rw [rsB_len]
  rcases findI rs.length p.b with _ | k
  · rfl
  · simp only [rsB_at]
    rcases rs[k]? with _ | x
    · rfl
    · simp only [Option.map_some, rbB, Bool.not_eq_true']
set_option maxRecDepth 100000 in
set_option maxHeartbeats 4000000 in
theorem May_none {S : Nat → Prop} {ad : Option Addr} {rs : List RB} (cap : Nat) (p : Val) (n : Int) (w : World) (_h : RefAt S w ad rs) (hf : findI rs.length p.b = none) :
    Calls Try.prog 43 #[.slice ad rs.length cap, valV p, .int .i64 n] w fun e w' => e = .returned (.bool false) ∧ w.grownBy w' none := by
  have HF := Lib.hid hf
  obtain ⟨pn, pb, pf⟩ := p
  unfold valV valC
  dsimp only at hf HF ⊢
  have HV0 := Lib.hid (VB.new3 w pn pb pf)
  clear hf _h
  go_enter Try.func43, Try.ntmps43
  go_wp2_with fail
  refine (show Calls Try.prog 40 #[.agg #[.int .i64 pn, .int .i64 pb, .int .i64 pf]] _ _ from r10_Pointer_any ⟨pn, pb, pf⟩ _).mono ?_
  rintro e w1 ⟨rfl, g1⟩
  have HV1 := Lib.hid (HV0.out.grown g1)
  clear g1
  obtain ⟨x0, x1, x2, hz⟩ := VB.reads HV1.out
  rcases ptrB ⟨pn, pb, pf⟩
  · go_wp2_with fail
    go_ret
    exact ⟨rfl, HV1.out.gr⟩
  · go_wp2_with fail
    refine (Is_any _ _ _ _ _).mono ?_
    rintro e w2 ⟨rfl, rfl⟩
    rw [HF.out]
    go_wp2_with fail
    go_ret
    exact ⟨rfl, HV1.out.gr⟩
/-- What the document asks of a place: for n from 0 on it is the program's. -/
def mayI (x : RB) (p : Val) (n : Int) : Bool := decide (ptrB p = true ∧ x.ended = false ∧ 0 ≤ n ∧ n ≤ x.bytes.length ∧ 0 ≤ p.n ∧ p.n ≤ x.bytes.length ∧ p.n + n ≤ x.bytes.length)
set_option maxRecDepth 100000 in
set_option maxHeartbeats 4000000 in
theorem May_some {S : Nat → Prop} {ad : Option Addr} {rs : List RB} (cap : Nat) (p : Val) (n : Int) (w : World) (h : RefAt S w ad rs) {k : Nat} (hf : findI rs.length p.b = some k) {x : RB} (hx : rs[k]? = some x) :
    Calls Try.prog 43 #[.slice ad rs.length cap, valV p, .int .i64 n] w fun e w' => e = .returned (.bool (mayI x p n)) ∧ w.grownBy w' none := by
  have HF := Lib.hid hf
  obtain ⟨hb, hk⟩ := findI_some hf
  obtain ⟨g, rfl, hgw, _⟩ := h.cells hx
  have hl := (h.each x (List.mem_of_getElem? hx)).2.2.1
  have HR := Lib.hid h
  have HX := Lib.hid hx
  obtain ⟨pn, pb, pf⟩ := p
  unfold valV valC
  dsimp only at hf HF hb ⊢
  subst hb
  have HV0 := Lib.hid (VB.new3 w pn ((k : Int) + 1) pf)
  have hm := h.small
  clear hf h hx
  by_cases hp : ptrB ⟨pn, (k : Int) + 1, pf⟩ = true ∧ x.ended = false
  · obtain ⟨hp, he⟩ := hp
    have HP := Lib.hid hp
    have HE := Lib.hid he
    have HMT := Lib.hid (fun (h : 0 ≤ n ∧ n ≤ x.bytes.length ∧ 0 ≤ pn ∧ pn ≤ x.bytes.length ∧ pn + n ≤ x.bytes.length) => (show mayI x ⟨pn, (k : Int) + 1, pf⟩ n = true from decide_eq_true ⟨hp, he, h⟩))
    have HMF := Lib.hid (fun (h : ¬ (0 ≤ n ∧ n ≤ x.bytes.length ∧ 0 ≤ pn ∧ pn ≤ x.bytes.length ∧ pn + n ≤ x.bytes.length)) => (show mayI x ⟨pn, (k : Int) + 1, pf⟩ n = false from decide_eq_false (fun hh => h hh.2.2)))
    clear hp he
    go_enter Try.func43, Try.ntmps43
    go_wp2_with fail
    refine (show Calls Try.prog 40 #[.agg #[.int .i64 pn, .int .i64 ((k : Int) + 1), .int .i64 pf]] _ _ from r10_Pointer_any ⟨pn, (k : Int) + 1, pf⟩ _).mono ?_
    rintro e w1 ⟨rfl, g1⟩
    have HV1 := Lib.hid (HV0.out.grown g1)
    have HR1 := Lib.hid (HR.out.gr HV1.out.gr)
    clear g1
    obtain ⟨x0, x1, x2, hz⟩ := VB.reads HV1.out
    obtain ⟨g', e', hg', c0, c1, c2⟩ := HR1.out.cells HX.out
    obtain rfl : g = g' := by injection e' with e'; injection e'
    rw [HP.out]
    rw [HE.out] at c2
    go_wp2_with fail
    refine (Is_any _ _ _ _ _).mono ?_
    rintro e w2 ⟨rfl, rfl⟩
    rw [HF.out]
    by_cases a0 : 0 ≤ n
    · by_cases a1 : n ≤ x.bytes.length
      · by_cases a2 : 0 ≤ pn
        · by_cases a3 : pn ≤ x.bytes.length
          · by_cases a4 : pn + n ≤ x.bytes.length
            · have HD := Lib.hid (HMT.out ⟨a0, a1, a2, a3, a4⟩)
              go_wp2_with fail
              go_ret
              exact ⟨by rw [HD.out]; rfl, HV1.out.gr⟩
            · have HD := Lib.hid (HMF.out (fun h => a4 h.2.2.2.2))
              have e4 : decide (pn + n ≤ x.bytes.length) = false := decide_eq_false a4
              go_wp2_with fail
              go_ret
              exact ⟨by rw [HD.out]; rfl, HV1.out.gr⟩
          · have HD := Lib.hid (HMF.out (fun h => a3 h.2.2.2.1))
            go_wp2_with fail
            go_ret
            exact ⟨by rw [HD.out]; rfl, HV1.out.gr⟩
        · have HD := Lib.hid (HMF.out (fun h => a2 h.2.2.1))
          go_wp2_with fail
          go_ret
          exact ⟨by rw [HD.out]; rfl, HV1.out.gr⟩
      · have HD := Lib.hid (HMF.out (fun h => a1 h.2.1))
        go_wp2_with fail
        go_ret
        exact ⟨by rw [HD.out]; rfl, HV1.out.gr⟩
    · have HD := Lib.hid (HMF.out (fun h => a0 h.1))
      go_wp2_with fail
      go_ret
      exact ⟨by rw [HD.out]; rfl, HV1.out.gr⟩
  · have HMI := Lib.hid (show mayI x ⟨pn, (k : Int) + 1, pf⟩ n = false from decide_eq_false (fun h => hp ⟨h.1, h.2.1⟩))
    have HNP := Lib.hid hp
    clear hp
    go_enter Try.func43, Try.ntmps43
    go_wp2_with fail
    refine (show Calls Try.prog 40 #[.agg #[.int .i64 pn, .int .i64 ((k : Int) + 1), .int .i64 pf]] _ _ from r10_Pointer_any ⟨pn, (k : Int) + 1, pf⟩ _).mono ?_
    rintro e w1 ⟨rfl, g1⟩
    have HV1 := Lib.hid (HV0.out.grown g1)
    have HR1 := Lib.hid (HR.out.gr HV1.out.gr)
    clear g1
    obtain ⟨x0, x1, x2, hz⟩ := VB.reads HV1.out
    obtain ⟨g', e', hg', c0, c1, c2⟩ := HR1.out.cells HX.out
    obtain rfl : g = g' := by injection e' with e'; injection e'
    by_cases hp : ptrB ⟨pn, (k : Int) + 1, pf⟩ = true
    · have he : x.ended = true := by
        rcases e : x.ended
        · exact absurd ⟨hp, e⟩ HNP.out
        · rfl
      rw [hp]
      rw [he] at c2
      clear hp he
      go_wp2_with fail
      refine (Is_any _ _ _ _ _).mono ?_
      rintro e w2 ⟨rfl, rfl⟩
      rw [HF.out]
      go_wp2_with fail
      go_ret
      exact ⟨by rw [HMI.out]; rfl, HV1.out.gr⟩
    · have hp : ptrB ⟨pn, (k : Int) + 1, pf⟩ = false := by simpa using hp
      rw [hp]
      clear hp
      go_wp2_with fail
      go_ret
      exact ⟨by rw [HMI.out]; rfl, HV1.out.gr⟩

end Go.Proofs.Ytblhnjoophhliaa
