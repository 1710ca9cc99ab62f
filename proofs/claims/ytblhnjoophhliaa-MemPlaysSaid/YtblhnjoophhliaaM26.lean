/- The document's memory: a call's result, End, Add. -/
import Derived.Test.YtblhnjoophhliaaM25
import Derived.Test.YtblhnjoophhliaaM10
namespace Go.Proofs.Ytblhnjoophhliaa
open Go.RowKit
theorem RefAt.up {S : Nat → Prop} {w w' : World} {ad : Option Addr} {rs : List RB} (h : RefAt S w ad rs) (g : w.grownBy w' none) : RefAt (New S w w') w' ad rs :=
  (h.gr g).mono (fun _ hk => .inl hk) fun k hk => hk.elim (fun hk => Nat.lt_of_lt_of_le (h.lt k hk) g.size) (·.2.1)
/-- What a call answers: a list of blocks of S and of what is new. -/
def RefP (S : Nat → Prop) (w w' : World) (v : Value) (bs : List Blk) : Prop := ∃ rs ad c, v = .slice ad rs.length c ∧ rsB rs = bs ∧ RefAt (New S w w') w' ad rs
theorem RefP.same {S : Nat → Prop} {w w' : World} {ad : Option Addr} {rs : List RB} {c : Nat} (h : RefAt S w ad rs) (g : w.grownBy w' none) : RefP S w w' (.slice ad rs.length c) (rsB rs) := ⟨rs, ad, c, rfl, rfl, h.up g⟩
theorem RefP.pre {S : Nat → Prop} {w w1 w' : World} {v : Value} {bs : List Blk} (g : w.grownBy w1 none) (hs : ∀ k, S k → k < w.heap.size) (g' : w1.grownBy w' none) (h : RefP S w1 w' v bs) : RefP S w w' v bs := by
  obtain ⟨rs, ad, c, e1, e2, h⟩ := h
  refine ⟨rs, ad, c, e1, e2, h.mono (fun k hk => hk.imp id fun q => ⟨Nat.le_trans g.size q.1, q.2⟩) fun k hk => ?_⟩
  rcases hk with hk | hk
  · exact Nat.lt_of_lt_of_le (hs k hk) (Nat.le_trans g.size g'.size)
  · exact hk.2.1
theorem RefP.post {S : Nat → Prop} {w w1 w' : World} {v : Value} {bs : List Blk} (hs : ∀ k, S k → k < w.heap.size) (g : w.grownBy w1 none) (h : RefP S w w1 v bs) (g' : w1.grownBy w' none) : RefP S w w' v bs := by
  obtain ⟨rs, ad, c, e1, e2, h⟩ := h
  refine ⟨rs, ad, c, e1, e2, (h.gr g').mono (fun k hk => hk.imp id fun q => ⟨q.1, Nat.lt_of_lt_of_le q.2.1 g'.size, q.2.2.gr g'⟩) fun k hk => ?_⟩
  rcases hk with hk | hk
  · exact Nat.lt_of_lt_of_le (hs k hk) (Nat.le_trans g.size g'.size)
  · exact hk.2.1
def endBs (bs : List Blk) (n : Int) : List Blk × Int :=
  match findI bs.length n with
  | none => (bs, 9)
  | some k => match bs[k]? with
    | none => (bs, 9)
    | some x => if x.live = true then (bs.set k { x with live := false }, 0) else (bs, 9)
theorem end_B (L : List (Nat × Blk)) (n : Int) : ((endP L n).1.map (·.2), (endP L n).2) = endBs (L.map (·.2)) n := by
  unfold endP endBs
  rw [List.length_map]
  rcases findI L.length n with _ | k
  · rfl
  · simp only [List.getElem?_map]
    rcases L[k]? with _ | x
    · rfl
    · simp only [Option.map_some]
      by_cases h : x.2.live = true
      · rw [if_pos h, if_pos h, List.map_set]; rfl
      · rw [if_neg h, if_neg h]
theorem endBs_rs {rs : List RB} {n : Int} {k : Nat} (hf : findI rs.length n = some k) {x : RB} (hx : rs[k]? = some x) : endBs (rsB rs) n = if x.ended = false then (rsB (rs.set k { x with ended := true }), 0) else (rsB rs, 9) := by
  unfold endBs
  rw [rsB_len, hf]
  simp only [rsB_at, hx, Option.map_some, rbB, Bool.not_eq_true']
  by_cases h : x.ended = false
  · rw [if_pos h, if_pos h]; unfold rsB; rw [List.map_set]; rfl
  · rw [if_neg h, if_neg h]
set_option maxRecDepth 100000 in
set_option maxHeartbeats 4000000 in
theorem rEnd_any {S : Nat → Prop} {ad : Option Addr} {rs : List RB} (cap : Nat) (n : Int) (w : World) (h : RefAt S w ad rs) :
    Calls Try.prog 16 #[.slice ad rs.length cap, .int .i64 n] w fun e w' => ∃ v, e = .returned (.tuple #[v, .int .i64 (endBs (rsB rs) n).2]) ∧ RefP S w w' v (endBs (rsB rs) n).1 ∧ w.grownBy w' none := by
  have HR := Lib.hid h
  rcases hf : findI rs.length n with _ | k
  · have HE := Lib.hid (show endBs (rsB rs) n = (rsB rs, 9) from by unfold endBs; rw [rsB_len, hf])
    have HF := Lib.hid hf
    clear h hf
    go_enter Try.func16, Try.ntmps16
    go_wp2_with fail
    refine (Is_any _ _ _ _ _).mono ?_
    rintro e w2 ⟨rfl, rfl⟩
    rw [HF.out]
    go_wp2_with fail
    go_ret2
    exact ⟨.slice _ rs.length _, by rw [HE.out]; rfl, by rw [HE.out]; exact RefP.same (c := cap) HR.out (grownBy_refl _ _), grownBy_refl _ _⟩
  · obtain ⟨x, hx⟩ : ∃ x, rs[k]? = some x := ⟨_, List.getElem?_eq_getElem (findI_some hf).2⟩
    obtain ⟨rfl, hk⟩ := findI_some hf
    have HF := Lib.hid hf
    have HX := Lib.hid hx
    have HE := Lib.hid (endBs_rs hf hx)
    obtain ⟨g, rfl, hgw, c0, c1, c2⟩ := h.cells hx
    have hsm := h.small
    clear h hf hx
    by_cases he : x.ended = false
    · have HE := Lib.hid (show endBs (rsB rs) ((k : Int) + 1) = (rsB (rs.set k { x with ended := true }), 0) from by rw [HE.out, if_pos he])
      have HN := Lib.hid he
      rw [he] at c2
      clear he
      go_enter Try.func16, Try.ntmps16
      go_wp2_with fail
      refine (Is_any _ _ _ _ _).mono ?_
      rintro e w2 ⟨rfl, rfl⟩
      rw [HF.out]
      go_wp2_with fail
      have hg1 := gr_alloc (grownBy_refl w none) (.cells #[.int .i64 x.site, .slice x.ad x.bytes.length x.cap, .bool true] 59)
      have HG1 := Lib.hid hg1
      refine (show Calls Try.prog 34 #[.slice (some ⟨g, 0, none⟩) rs.length cap, .int .i64 ((k : Int) + 1), .agg #[.int .i64 x.site, .slice x.ad x.bytes.length x.cap, .bool true]] (w.alloc (.cells #[.int .i64 x.site, .slice x.ad x.bytes.length x.cap, .bool true] 59)) _ from with_any cap k { x with ended := true } _ (HR.out.gr hg1) hk ((HR.out.each x (List.mem_of_getElem? HX.out)).1.gr hg1) (HR.out.each x (List.mem_of_getElem? HX.out)).2.1 (HR.out.each x (List.mem_of_getElem? HX.out)).2.2.1 (HR.out.each x (List.mem_of_getElem? HX.out)).2.2.2.1 (HR.out.each x (List.mem_of_getElem? HX.out)).2.2.2.2).mono ?_
      rintro e w2 ⟨ad', c', rfl, h2, g2⟩
      clear hg1
      go_wp2_with fail
      go_ret2
      refine ⟨.slice ad' rs.length c', by rw [HE.out]; rfl, ?_, grownBy_trans HG1.out g2⟩
      rw [HE.out]
      exact RefP.pre HG1.out HR.out.lt g2 ⟨_, ad', c', by rw [List.length_set], rfl, h2⟩
    · have HE := Lib.hid (show endBs (rsB rs) ((k : Int) + 1) = (rsB rs, 9) from by rw [HE.out, if_neg he])
      have he : x.ended = true := by simpa using he
      rw [he] at c2
      clear he
      go_enter Try.func16, Try.ntmps16
      go_wp2_with fail
      refine (Is_any _ _ _ _ _).mono ?_
      rintro e w2 ⟨rfl, rfl⟩
      rw [HF.out]
      go_wp2_with fail
      go_ret2
      exact ⟨.slice _ rs.length _, by rw [HE.out]; rfl, by rw [HE.out]; exact RefP.same (c := cap) HR.out (grownBy_refl _ _), grownBy_refl _ _⟩

end Go.Proofs.Ytblhnjoophhliaa
