/- The document's memory: an append in a region that draws; Copy. -/
import Derived.Test.YtblhnjoophhliaaM30
import Derived.Deep.RegionLaw
namespace Go.Proofs.Ytblhnjoophhliaa
open Go.RowKit
theorem step_append_own {P : Program} {w : World} {ops : Array Oper} {o : Oper} {a : Act} {K : Act → World → Prop} {Q : Exit → Act → World → Prop} {E : Prop} (hgd : o.guard = none) (s x : Operand) (t : TypeId)
    (ho : o.op = .call { callee := .builtin .append, args := #[s, x], argTypes := #[t, t] })
    (base : Nat) (e : TypeId) (i : TypeInfo) (z : Value) (size bytes : Nat) (ht : P.underlying t = some (.slice e)) (hi : P.info? e = some i) (hz : i.zero = some z)
    (hsize : i.size = size) (hby : i.bytes = bytes) (hzs : z.cells.size = size) (hsz : 0 < size)
    (v : Value) (n : Nat) (xs : List Value) (hs : a.eval s = v) (hown : w.ownsRow base e size v n xs)
    (ad : Addr) (m c : Nat) (news : List Value) (hx : a.eval x = .slice (some ad) m c) (hl : news.length = m * size) (hnews : ∀ j u, news[j]? = some u → w.cell? (ad.add j) = some u) (h1 : ∀ u ∈ news, u.oneCell' = true)
    (h63 : n + m ≤ maxLen) (hbytes : (n + m) * bytes ≤ 140737488355328) (hbase : base ≤ w.heap.size)
    (h : ∀ v' w', w'.ownsRow base e size v' (n + m) (xs ++ news) → w.grownBy w' v.ownBlock → K (a.put o.dst v') w') :
    if Region.wanted o (yielded ops a.tmps) = true then Oper.wp P o a w K Q else E := by
  have hw : Region.wanted o (yielded ops a.tmps) = true := by simp [Region.wanted, hgd]
  rw [if_pos hw]
  exact wp_append_own w s x t ho base e i z size bytes ht hi hz hsize hby hzs hsz v n xs hs hown ad m c news hx hl hnews h1 h63 hbytes hbase fun v' w' h2 h3 _ => h v' w' h2 h3
theorem step_append_none {P : Program} {w : World} {ops : Array Oper} {o : Oper} {a : Act} {K : Act → World → Prop} {Q : Exit → Act → World → Prop} {E : Prop} (hgd : o.guard = none) (s x : Operand) (t : TypeId)
    (ho : o.op = .call { callee := .builtin .append, args := #[s, x], argTypes := #[t, t] })
    (base : Nat) (e : TypeId) (i : TypeInfo) (size : Nat) (ht : P.underlying t = some (.slice e)) (hi : P.info? e = some i)
    (v : Value) (n : Nat) (xs : List Value) (hs : a.eval s = v) (hown : w.ownsRow base e size v n xs) (hx : a.eval x = .slice none 0 0)
    (h : K (a.put o.dst v) w) :
    if Region.wanted o (yielded ops a.tmps) = true then Oper.wp P o a w K Q else E := by
  have hw : Region.wanted o (yielded ops a.tmps) = true := by simp [Region.wanted, hgd]
  rw [if_pos hw]
  have hrun := run_append_owned_none (P := P) (w := w) base t o.type e i size ht hi v n xs hown
  unfold Oper.wp
  simp [execOp, ho, resolve, invoke, builtin, hs, hx, hrun, Result.andThen]
  exact h
theorem P2.far {w a b : World} {p q : Val} {o : Option Nat} (h : P2 w p q a) (g : a.grownBy b o) (ho : ∀ k, o = some k → w.heap.size + 2 ≤ k) : P2 w p q b :=
  ⟨h.b0.farB g (by omega) ho, h.b1.farB g (by omega) ho, gr_far h.gr g (by omega) ho⟩
theorem cell_keep {w : World} {a : Addr} {u : Value} (o : Obj) (h : w.cell? a = some u) : (w.alloc o).drew.cell? a = some u := by
  have hb : a.block < w.heap.size := by
    rcases Nat.lt_or_ge a.block w.heap.size with h' | h'
    · exact h'
    · simp [World.cell?, Array.getElem?_eq_none h'] at h
  exact (World.cell?_of_block (w := w) (w' := (w.alloc o).drew) (a := a) (heap_alloc_old w o hb)).trans h
theorem seg_src {w : World} {ya : Addr} {M : List Byt} {o c cp : Nat} (h : RdAt w (some ya) M) (hoc : o + c ≤ M.length) (hcp : M.length ≤ cp) :
    ∃ sa, (if cp = o then some ya else some (ya.add (o * 5))) = some sa ∧ ∀ i u, (flatC bytC (segL M o c))[i]? = some u → w.cell? (sa.add i) = some u := by
  by_cases e : cp = o
  · refine ⟨ya, if_pos e, fun i u hu => ?_⟩
    have := (List.getElem?_eq_some_iff.1 hu).1
    rw [flat_len bytC_size, seg_len hoc] at this
    omega
  · refine ⟨ya.add (o * 5), if_neg e, fun i u hu => ?_⟩
    rw [Addr.add_add]
    refine h.src _ _ ?_
    have e : flatC bytC (segL M o c) = ((flatC bytC M).drop (o * 5)).take (c * 5) := by
      unfold segL
      rw [flat_drop bytC_size _ _ (by omega), flat_take bytC_size _ _ (by rw [List.length_drop]; omega)]
    rw [e, List.getElem?_take] at hu
    split at hu
    · rwa [List.getElem?_drop] at hu
    · cases hu
def copyBs (bs : List Blk) (to fr : Val) (n : Int) : List Blk × Int :=
  if lenB n = false then (bs, 9) else
  match cutB bs to n, cutB bs fr n with
  | some k, some j => match bs[j]? with
    | some y => (layBs bs k to.n.toNat (segL y.bytes fr.n.toNat n.toNat), 0)
    | none => (bs, 9)
  | _, _ => (bs, 9)
theorem copy_B (L : List (Nat × Blk)) (to fr : Val) (n : Int) : ((copyP L to fr n).1.map (·.2), (copyP L to fr n).2) = copyBs (L.map (·.2)) to fr n := by
  unfold copyP copyBs
  rw [← cut_B, ← cut_B]
  by_cases h : lenB n = false
  · rw [if_pos h, if_pos h]
  · rw [if_neg h, if_neg h]
    rcases hc : cutI L to n with _ | k
    · rfl
    · rcases hd : cutI L fr n with _ | j
      · rfl
      · obtain ⟨x, hx⟩ := cut_in0 hc
        obtain ⟨y, hy⟩ := cut_in0 hd
        simp only [hx, hy, List.getElem?_map, Option.map_some]
        rw [lay_B hx]
set_option maxRecDepth 100000 in
set_option maxHeartbeats 4000000 in
theorem rCopy_no {S : Nat → Prop} {ad : Option Addr} {rs : List RB} (cap : Nat) (p q : Val) (n : Int) (w : World) (h : RefAt S w ad rs) (hc : lenB n = false ∨ cutB (rsB rs) p n = none ∨ cutB (rsB rs) q n = none) :
    Calls Try.prog 22 #[.slice ad rs.length cap, valV p, valV q, .int .i64 n] w fun e w' => e = .returned (.tuple #[.slice ad rs.length cap, .int .i64 9]) ∧ w.grownBy w' none := by
  have HR := Lib.hid h
  have HC := Lib.hid hc
  obtain ⟨pn, pb, pf⟩ := p
  obtain ⟨qn, qb, qf⟩ := q
  unfold valV valC
  dsimp only at *
  have HV0 := Lib.hid (P2.new w pn pb pf qn qb qf)
  clear h hc
  by_cases a0 : n < 0
  · go_enter Try.func22, Try.ntmps22
    go_wp2_with fail
    go_ret2
    exact ⟨rfl, HV0.out.gr⟩
  · by_cases a1 : 4096 < n
    · go_enter Try.func22, Try.ntmps22
      go_wp2_with fail
      go_ret2
      exact ⟨rfl, HV0.out.gr⟩
    · have a2 : 0 ≤ n := by omega
      go_enter Try.func22, Try.ntmps22
      go_wp2_with fail
      refine (show Calls Try.prog 43 #[.slice ad rs.length cap, .agg #[.int .i64 pn, .int .i64 pb, .int .i64 pf], .int .i64 n] _ _ from May_any cap ⟨pn, pb, pf⟩ n a2 _ (HR.out.gr HV0.out.gr)).mono ?_
      rintro e w1 ⟨rfl, g1⟩
      have HV1 := Lib.hid (HV0.out.grown g1)
      clear g1
      obtain ⟨x0, x1, x2, f0, f1, f2, hz⟩ := P2.r0 HV1.out
      obtain ⟨y0, y1, y2, z0, z1, z2⟩ := P2.r1 HV1.out
      rcases hk : (cutB (rsB rs) ⟨pn, pb, pf⟩ n).isSome
      · go_wp2_with fail
        go_ret2
        exact ⟨rfl, HV1.out.gr⟩
      · have HQ := Lib.hid (show (cutB (rsB rs) ⟨qn, qb, qf⟩ n).isSome = false from by
          rcases HC.out with h | h | h
          · have := of_decide_eq_false (show decide _ = false from h); omega
          · rw [h] at hk; cases hk
          · rw [h]; rfl)
        clear hk
        go_wp2_with fail
        refine (show Calls Try.prog 43 #[.slice ad rs.length cap, .agg #[.int .i64 qn, .int .i64 qb, .int .i64 qf], .int .i64 n] _ _ from May_any cap ⟨qn, qb, qf⟩ n a2 _ (HR.out.gr HV1.out.gr)).mono ?_
        rintro e w2 ⟨rfl, g2⟩
        rw [HQ.out]
        have HG2 := Lib.hid (grownBy_trans HV1.out.gr g2)
        clear g2
        go_wp2_with fail
        go_ret2
        exact ⟨rfl, HG2.out⟩

end Go.Proofs.Ytblhnjoophhliaa
