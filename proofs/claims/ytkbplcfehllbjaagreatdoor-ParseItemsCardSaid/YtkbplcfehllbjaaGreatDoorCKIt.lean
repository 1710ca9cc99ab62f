/- ParseItems. -/
import Derived.Test.YtkbplcfehllbjaaGreatDoorCR4
import Derived.Test.YtkbplcfehllbjaaGreatDoorMkTop
import Derived.Deep.DeepCutAuto
import Derived.Deep.CutRange
namespace Go.Proofs.YtkbplcfehllbjaaGreatDoor
open Go.RowKit
attribute [local go_sem ↓] Go.wp_at_zero Go.wp_at_succ
theorem Parse_some {s : ByteArray} {w : World} (hv : Vars w) : Calls Tryz.prog 10 #[.string s] w fun e w' => w.grownBy w' none ∧ ∃ (k m tk tm : Int) (tx nm : ByteArray) (oa : Option Addr) (on oc : Nat) (ka : Option Addr) (kn kc : Nat) (p er : Int), e = .returned (.tuple #[.agg #[.int .i64 k, .string tx, .int .i64 m, .int .i64 tk, .int .i64 tm, .string nm, .slice oa on oc, .slice ka kn kc], .int .i64 p, .int .i64 er]) :=
  (Parse_any s w hv).mono fun e w' hu => by
    obtain ⟨n, oa, on, oc, ka, kn, kc, p, er, he, hg, _⟩ := unitRes_gen hu
    exact ⟨hg, _, _, _, _, _, _, oa, on, oc, ka, kn, kc, p, er, he⟩
theorem kids_loop : ∀ (n : Nat) (acc : List Nd) (ts : List T4) (L : List Nd) (r : List T4), loopP (unitStep (recAt 60) (recAt 59)) n acc ts = .ok L r → L.length ≤ acc.length + ts.length := by
  intro n
  induction n with
  | zero => intro acc ts L r e; cases e
  | succ n ih =>
    intro acc ts L r e
    rw [loop_succ, uS] at e
    by_cases h : (hdT ts).kind = 0
    · rw [if_pos h] at e; cases e; omega
    · rw [if_neg h] at e
      cases hi : itemP (recAt 60) (recAt 59) ts with
      | err p q => rw [hi] at e; cases e
      | ok a r1 =>
        rw [hi] at e
        have h1 := (Shr.item' (RecShr.at 60) (RecShr.at 59) _ _ _ hi).2 (by intro e; subst e; exact h rfl)
        have h2 := ih _ _ _ _ e
        simp at h2; omega
theorem kids_len {s : List UInt8} {n : Nd} {r : List T4} (h : parseP s = .ok n r) : n.kids.length ≤ 20002 := by
  obtain ⟨l, ht, hu, _⟩ := parseP_inv h
  obtain ⟨h1, h2⟩ := tokensR_len ht
  unfold unitP at hu
  obtain ⟨L, r1, hL, e⟩ := PR.bind_ok' hu
  cases e
  have := kids_loop _ _ _ _ _ hL
  simp at this
  show L.length ≤ _
  omega
set_option maxRecDepth 100000 in
theorem run_append_row (ty : TypeId) {w : World} {S : Nat → Prop} {v x : Value} {l1 l2 : List Nd} {c1 : List Value} {B : Nat} (hrow : w.ownsRow 0 28 8 v l1.length c1) (he : RepNl w S l1 c1) (hx : RepK w S x l2)
    (hn : ∀ g, v.ownBlock = some g → B ≤ g) (hS : ∀ g, S g → g < B) (hB : B ≤ w.heap.size) (hlen : l1.length + l2.length ≤ 40004) :
    ∃ a n c w' cs, (Builtin.append_ #[26, 26] ty #[v, x]).run Tryz.prog w = .ok (.slice a n c) w' ∧ w'.ownsRow 0 28 8 (.slice a n c) (l1 ++ l2).length cs ∧ RepNl w' S (l1 ++ l2) cs ∧ (∀ g, (Value.slice a n c).ownBlock = some g → B ≤ g) ∧ (∀ g, (Value.slice a n c).ownBlock = some g → v.ownBlock = some g ∨ w.heap.size ≤ g) ∧ w.grownBy w' v.ownBlock := by
  obtain ⟨i0, hi, hz0, hz1, hz2⟩ := info_parts infoNd
  obtain ⟨c2, hr2, hb2, he2⟩ := hx
  have hsame : ∀ w', w.grownBy w' v.ownBlock → SameOn S w w' := fun w' g k hk hl => g.block k hl (fun e => by have := hn k e.symm; have := hS k hk; omega)
  rcases row_cells hr2 with ⟨rfl, h0⟩ | ⟨g, cap, rfl, hc⟩
  · have : l2 = [] := List.eq_nil_of_length_eq_zero h0
    subst this
    have hf : ∃ a n c, v = .slice a n c := by
      rcases row_cells hrow with ⟨rfl, _⟩ | ⟨g, cap, rfl, _⟩
      · exact ⟨_, _, _, rfl⟩
      · exact ⟨_, _, _, rfl⟩
    obtain ⟨a, n, c, rfl⟩ := hf
    refine ⟨a, n, c, w, c1, run_append_owned_none (P := Tryz.prog) w 0 26 ty 28 i0 8 Tryz.underlying26 hi _ l1.length c1 hrow, ?_, ?_, hn, fun g hg => .inl hg, grownBy_refl _ _⟩
    · rw [List.append_nil]; exact hrow
    · rw [List.append_nil]; exact he
  · obtain ⟨v', w', hr, h2, h3, _, h5⟩ := run_append_own_at (P := Tryz.prog) w 0 26 ty 28 i0 _ 8 112 Tryz.underlying26 hi hz0 hz1 hz2 rfl (by decide) v l1.length c1 hrow ⟨g, 0, none⟩ l2.length cap c2 hr2.1 hc (RepNl.ones l2 c2 he2) (by unfold maxLen; omega) (by omega) (Nat.zero_le _)
    have hf : ∃ a n c, v' = .slice a n c := by
      rcases row_cells h2 with ⟨rfl, _⟩ | ⟨g, cap, rfl, _⟩
      · exact ⟨_, _, _, rfl⟩
      · exact ⟨_, _, _, rfl⟩
    obtain ⟨a, n, c, rfl⟩ := hf
    refine ⟨a, n, c, w', c1 ++ c2, hr, by rw [List.length_append]; exact h2, RepNl.app l1 l2 c1 c2 (RepNl.mono (fun g hs _ => hs) (hsame w' h3) l1 c1 he) (RepNl.mono (fun g hs _ => hs) (hsame w' h3) l2 c2 he2), fun k hk => ?_, fun k hk => ?_, h3⟩
    · rcases h5 with h5 | h5
      · exact hn k (by rw [← h5]; exact hk)
      · rw [h5] at hk
        cases hk
        exact hB
    · rcases h5 with h5 | h5
      · exact .inl (by rw [← h5]; exact hk)
      · rw [h5] at hk
        cases hk
        exact .inr (Nat.le_refl _)
theorem step_append_row {ops : Array Oper} {o : Oper} {a : Act} {w : World} {K : Act → World → Prop} {Q : Exit → Act → World → Prop} {E : Prop} (hgd : o.guard = none) (s x : Operand)
    (ho : o.op = .call { callee := .builtin .append, args := #[s, x], argTypes := #[26, 26] }) {S : Nat → Prop} {v xv : Value} {l1 l2 : List Nd} {c1 : List Value} {B : Nat} (hs : a.eval s = v) (hxv : a.eval x = xv)
    (hrow : w.ownsRow 0 28 8 v l1.length c1) (he : RepNl w S l1 c1) (hx : RepK w S xv l2)
    (hn : ∀ g, v.ownBlock = some g → B ≤ g) (hS : ∀ g, S g → g < B) (hB : B ≤ w.heap.size) (hlen : l1.length + l2.length ≤ 40004)
    (h : ∀ a' n c w' cs, w'.ownsRow 0 28 8 (.slice a' n c) (l1 ++ l2).length cs → RepNl w' S (l1 ++ l2) cs → (∀ g, (Value.slice a' n c).ownBlock = some g → B ≤ g) → (∀ g, (Value.slice a' n c).ownBlock = some g → v.ownBlock = some g ∨ w.heap.size ≤ g) → w.grownBy w' v.ownBlock → K (a.put o.dst (.slice a' n c)) w') :
    if Region.wanted o (yielded ops a.tmps) = true then Oper.wp Tryz.prog o a w K Q else E := by
  have hw : Region.wanted o (yielded ops a.tmps) = true := by simp [Region.wanted, hgd]
  rw [if_pos hw]
  obtain ⟨a', n, c, w', cs, hr, h2, h3, h4, h5, h6⟩ := run_append_row o.type hrow he hx hn hS hB hlen
  unfold Oper.wp execOp
  simp only [ho, resolve, invoke, builtin, Sem.run_bind, Sem.run_pure, Result.andThen_ok, List.map_toArray, List.map_cons, List.map_nil, hs, hxv, hr]
  exact h a' n c w' cs h2 h3 h4 h5 h6
theorem own_e {w : World} {L : Nat} (h : w.heap[L]? = some (.cells #[] 28 (0, 0))) : w.ownsRow 0 28 8 (.slice (some ⟨L, 0, none⟩) 0 0) 0 [] :=
  ⟨rfl, .inr ⟨L, 0, #[], rfl, Nat.zero_le _, h, Nat.le_refl _, Nat.zero_le _, rfl, rfl⟩⟩
theorem z_keep {w w5 : World} {bz : Nat} {o o5 : Option Nat} {cs : Array Value} {ty : TypeId} (hz : w.heap[bz]? = some (.cells cs ty (0, 0))) (hg : w.grownBy w5 o) (hne : o ≠ some bz) (hw : ∀ g, o5 = some g → o = some g ∨ w.heap.size ≤ g) : w5.heap[bz]? = some (.cells cs ty (0, 0)) ∧ o5 ≠ some bz :=
  ⟨blk_call hz hg hne, fun e => by
    rcases hw bz e with h | h
    · exact hne h
    · have := lt_of_heap hz; omega⟩
theorem drew_size (w : World) : w.drew.heap.size = w.heap.size := rfl
theorem blk_dr {w : World} {b : Nat} {o : Obj} (h : w.heap[b]? = some o) : w.drew.heap[b]? = some o := h
theorem blk_at {w : World} {o : Obj} {L : Nat} (h : L = w.heap.size) : (w.alloc o).heap[L]? = some o := h ▸ blk_new w o
theorem nl_drew {w : World} {S : Nat → Prop} {l : List Nd} {cs : List Value} (h : RepNl w S l cs) : RepNl w.drew S l cs :=
  RepNl.mono (w := w) (w' := w.drew) (fun _ hs _ => hs) (fun _ _ _ => rfl) l cs h
theorem own_drew {w : World} {T k n : Nat} {v : Value} {cs : List Value} (h : w.ownsRow 0 T k v n cs) : w.drew.ownsRow 0 T k v n cs := h
theorem nl_alloc {w : World} {S : Nat → Prop} {l : List Nd} {cs : List Value} (h : RepNl w S l cs) (o : Obj) : RepNl (w.alloc o) S l cs :=
  RepNl.mono (fun _ hs _ => hs) (fun k _ hl => (gr_alloc (grownBy_refl w none) o).block k hl (by simp)) l cs h
theorem set8_same {w : World} {b : Nat} (S : Nat → Prop) (hS : ∀ g, S g → g ≠ b) (v0 v1 v2 v3 v4 v5 v6 v7 : Value) : SameOn S w ((((((((w.setCell ⟨b, 0, none⟩ v0).setCell ⟨b, 1, none⟩ v1).setCell ⟨b, 2, none⟩ v2).setCell ⟨b, 3, none⟩ v3).setCell ⟨b, 4, none⟩ v4).setCell ⟨b, 5, none⟩ v5).setCell ⟨b, 6, none⟩ v6).setCell ⟨b, 7, none⟩ v7) := fun g hs hg => by
  have h : w.heap[g]? = some w.heap[g] := Array.getElem?_eq_getElem hg
  rw [h]
  exact blk_set8 h (hS g hs) v0 v1 v2 v3 v4 v5 v6 v7
/-- The list that was put together: its own block, and those of its parts. -/
def Joined (B : Nat) (v : Value) (g : Nat) : Prop := g < B ∨ v.ownBlock = some g
theorem joined {w : World} {B : Nat} {v : Value} {l : List Nd} {cs : List Value} (h : w.ownsRow 0 28 8 v l.length cs) (k : RepNl w (fun g => g < B) l cs) : RepK w (Joined B v) v l :=
  ⟨cs, h, fun g hg => .inr hg, RepNl.mono (fun g hs _ => .inl hs) (fun _ _ _ => rfl) l cs k⟩
/-- What stands behind the joining: want's block, c's block, and the trees of both. -/
def WantRel (w : World) (b3 : Nat) (cs : Array Value) (ov kv : Value) (l : List Nd) (v : Value) (wx : World) : Prop := ∃ (bz : Nat) (a6 : Option Addr) (n6 c6 : Nat) (S S' : Nat → Prop), v = .pointer (some ⟨bz, 0, none⟩) ∧ Hid (w.grownBy wx none) ∧ Hid (wx.heap[b3]? = some (.cells cs 28 (0, 0))) ∧
  Hid (wx.heap[bz]? = some (.cells #[.int .i64 23, .string ⟨#[]⟩, .int .i64 0, .int .i64 0, .int .i64 0, .string ⟨#[]⟩, .slice none 0 0, .slice a6 n6 c6] 28 (0, 0))) ∧ Hid (RepOf wx S ov []) ∧ Hid (RepK wx S kv l) ∧ Hid (RepK wx S' (.slice a6 n6 c6) l)
theorem want_new {w W4 w6 : World} {b3 : Nat} {cs : Array Value} {ov kv : Value} {l : List Nd} {a6 : Option Addr} {n6 c6 : Nat} (hw : w.grownBy W4 none) (hg : W4.grownBy w6 none) (hc : W4.heap[b3]? = some (.cells cs 28 (0, 0))) {S : Nat → Prop} (ho : RepOf W4 S ov []) (hk : RepK W4 S kv l) {S' : Nat → Prop} (h6 : RepK w6 S' (.slice a6 n6 c6) l) :
    WantRel w b3 cs ov kv l (.pointer (some ⟨w6.heap.size, 0, none⟩)) (w6.alloc (.cells #[.int .i64 23, .string ⟨#[]⟩, .int .i64 0, .int .i64 0, .int .i64 0, .string ⟨#[]⟩, .slice none 0 0, .slice a6 n6 c6] 28)) :=
  ⟨_, a6, n6, c6, S, S', rfl, gr_alloc (grownBy_trans hw hg) _, blk_alloc (blk_call hc hg (by simp)) _, blk_new _ _, (ho.grow hg).grow (gr_alloc (grownBy_refl _ _) _), (hk.grow hg).grow (gr_alloc (grownBy_refl _ _) _), h6.grow (gr_alloc (grownBy_refl _ _) _)⟩
theorem want_put {w W4 w6 : World} {b3 bz : Nat} {cs : Array Value} {ov kv : Value} {l : List Nd} {a6 : Option Addr} {n6 c6 : Nat} (hw : w.grownBy W4 none) (hg : W4.grownBy w6 none) (hc : W4.heap[b3]? = some (.cells cs 28 (0, 0))) {S : Nat → Prop} (ho : RepOf W4 S ov []) (hk : RepK W4 S kv l) (hb : W4.heap.size ≤ bz)
    (hz : w6.heap[bz]? = some (.cells #[.int .i64 0, .string ⟨#[]⟩, .int .i64 0, .int .i64 0, .int .i64 0, .string ⟨#[]⟩, .slice none 0 0, .slice none 0 0] 28)) {cs6 : List Value} (h6 : w6.ownsRow 0 28 8 (.slice a6 n6 c6) l.length cs6) (h7 : RepNl w6 (fun g => g < W4.heap.size) l cs6) (hn : (Value.slice a6 n6 c6).ownBlock ≠ some bz) :
    WantRel w b3 cs ov kv l (.pointer (some ⟨bz, 0, none⟩)) ((((((((w6.setCell ⟨bz, 0, none⟩ (.int .i64 23)).setCell ⟨bz, 1, none⟩ (.string ⟨#[]⟩)).setCell ⟨bz, 2, none⟩ (.int .i64 0)).setCell ⟨bz, 3, none⟩ (.int .i64 0)).setCell ⟨bz, 4, none⟩ (.int .i64 0)).setCell ⟨bz, 5, none⟩ (.string ⟨#[]⟩)).setCell ⟨bz, 6, none⟩ (.slice none 0 0)).setCell ⟨bz, 7, none⟩ (.slice a6 n6 c6)) := by
  have hlt := lt_of_heap hc
  have hbw : w.heap.size ≤ bz := Nat.le_trans hw.size hb
  have hgw := grownBy_trans hw hg
  have hs : SameOn (fun g => g < W4.heap.size) w6 _ := set8_same (w := w6) (b := bz) (fun g => g < W4.heap.size) (fun g h => by omega) (.int .i64 23) (.string ⟨#[]⟩) (.int .i64 0) (.int .i64 0) (.int .i64 0) (.string ⟨#[]⟩) (.slice none 0 0) (.slice a6 n6 c6)
  have hs' : SameOn (Joined W4.heap.size (.slice a6 n6 c6)) w6 _ := set8_same (w := w6) (b := bz) (Joined W4.heap.size (.slice a6 n6 c6)) (fun g h => by
    rcases h with h | h
    · omega
    · exact fun e => hn (by rw [h, e])) (.int .i64 23) (.string ⟨#[]⟩) (.int .i64 0) (.int .i64 0) (.int .i64 0) (.string ⟨#[]⟩) (.slice none 0 0) (.slice a6 n6 c6)
  refine ⟨bz, a6, n6, c6, fun g => g < W4.heap.size, Joined W4.heap.size (.slice a6 n6 c6), rfl, ?_, blk_set8 (blk_call hc hg (by simp)) (by omega) _ _ _ _ _ _ _ _, blk_put8 hz _ _ _ _ _ _ _ _, ?_, ?_, ?_⟩
  · show World.grownBy _ _ none
    repeat (refine World.grownBy.gr_set ?_ hbw _)
    exact hgw
  · exact ((ho.mono (S' := fun g => g < W4.heap.size) (fun g _ h => h) (fun _ _ _ => rfl)).grow hg).mono (fun g h _ => h) hs
  · exact ((hk.mono (S' := fun g => g < W4.heap.size) (fun g _ h => h) (fun _ _ _ => rfl)).grow hg).mono (fun g h _ => h) hs
  · exact (joined h6 h7).mono (fun g h _ => h) hs'
set_option maxRecDepth 100000 in
set_option maxHeartbeats 16000000 in
theorem items_walk (s t : ByteArray) (w : World) (hv : Vars w) : Calls Tryz.prog 5 #[.string s, .string t] w fun e w' => e = .returned (.bool true) ∧ w.grownBy w' none := by
  have HV := Lib.hid hv
  clear hv
  go_enter Tryz.func5, Tryz.ntmps5
  go_wp2_with fail
  refine (shown_any w HV.out).mono ?_
  rintro e w1 ⟨rfl, hg1⟩
  have HG1 := Lib.hid hg1
  clear hg1
  go_wp2_with fail
  cases hR : parseP s.data.toList with
  | err p er =>
    have hnz := parseP_nz hR
    refine (Parse_bad (HV.out.grow HG1.out) hR).mono ?_
    rintro e w2 ⟨hg2, rfl⟩
    have HG2 := Lib.hid (grownBy_trans HG1.out hg2)
    clear hg2 hR
    unfold ndV
    go_wp2_with fail
    refine (Parse_some (HV.out.grow (gr_alloc HG2.out _))).mono ?_
    rintro e w3 ⟨hg3, k, m, tk, tm, tx, nm, oa, on, oc, ka, kn, kc, p', er', rfl⟩
    have HG3 := Lib.hid (grownBy_trans (gr_alloc HG2.out _) hg3)
    clear hg3
    go_wp2_with fail
    go_ret
    exact ⟨rfl, gr_alloc HG3.out _⟩
  | ok n1 r1 =>
    refine (Parse_ok (HV.out.grow HG1.out) hR).mono ?_
    rintro e w2 ⟨hg2, k, m, tk, tm, tx, nm, oa, on, oc, ka, kn, kc, rfl, -, -, hkd⟩
    have HG1' := Lib.hid (grownBy_trans HG1.out hg2)
    clear hg2
    have HR := Lib.hid hR
    clear hR
    go_wp2_with fail
    have HB1 := Lib.hid (blk_new w2 (.cells #[.int .i64 k, .string tx, .int .i64 m, .int .i64 tk, .int .i64 tm, .string nm, .slice oa on oc, .slice ka kn kc] 28))
    have HG2 := Lib.hid (gr_alloc HG1'.out (.cells #[.int .i64 k, .string tx, .int .i64 m, .int .i64 tk, .int .i64 tm, .string nm, .slice oa on oc, .slice ka kn kc] 28))
    have HK1 := Lib.hid (hkd.out.grow (gr_alloc (grownBy_refl w2 none) (.cells #[.int .i64 k, .string tx, .int .i64 m, .int .i64 tk, .int .i64 tm, .string nm, .slice oa on oc, .slice ka kn kc] 28)))
    clear hkd
    generalize w2.alloc (.cells #[.int .i64 k, .string tx, .int .i64 m, .int .i64 tk, .int .i64 tm, .string nm, .slice oa on oc, .slice ka kn kc] 28) = W at *
    generalize w2.heap.size = b at *
    cases hR2 : parseP t.data.toList with
    | err p er =>
      have hnz := parseP_nz hR2
      refine (Parse_bad (HV.out.grow HG2.out) hR2).mono ?_
      rintro e w3 ⟨hg3, rfl⟩
      have HG3 := Lib.hid (grownBy_trans HG2.out hg3)
      clear hg3 hR2
      unfold ndV
      go_wp2_with fail
      go_ret
      exact ⟨rfl, gr_alloc HG3.out _⟩
    | ok n2 r2 =>
      refine (Parse_ok (HV.out.grow HG2.out) hR2).mono ?_
      rintro e w3 ⟨hg3, k', m', tk', tm', tx', nm', oa', on', oc', ka', kn', kc', rfl, -, -, hkd'⟩
      have HB1' := Lib.hid (blk_call HB1.out hg3 (by simp))
      have HK1' := Lib.hid (HK1.out.grow hg3)
      have HG2' := Lib.hid (grownBy_trans HG2.out hg3)
      clear hg3 HB1 HK1 HG2
      have HR2 := Lib.hid hR2
      clear hR2
      by_cases hlen : 20000 ≤ s.size + t.size
      · have hlen' : (20000 : Int) ≤ s.size + t.size := by omega
        have h1 := (parseP_ok HR.out).2.2.2.2.2.2
        have h2 := (parseP_ok HR2.out).2.2.2.2.2.2
        simp at h1 h2
        have hw : IntKind.i64.wrap ((s.size : Int) + t.size) = s.size + t.size := IntWalk.i64_in _ (by omega)
        go_wp2_with fail
        go_ret
        exact ⟨rfl, gr_alloc HG2'.out _⟩
      · have hlen' : ¬ (20000 : Int) ≤ s.size + t.size := by omega
        have hw : IntKind.i64.wrap ((s.size : Int) + t.size) = s.size + t.size := IntWalk.i64_in _ (by omega)
        have hlen2 : s.size + t.size < 20000 := by omega
        go_wp2_with fail
        obtain ⟨r3, hR3⟩ := parse_join HR.out HR2.out (by simpa using hlen2)
        have hbytes : (s ++ ⟨#[10]⟩ ++ t).data.toList = s.data.toList ++ 10 :: t.data.toList := by simp
        rw [← hbytes] at hR3
        have HB2 := Lib.hid (blk_new w3 (.cells #[.int .i64 k', .string tx', .int .i64 m', .int .i64 tk', .int .i64 tm', .string nm', .slice oa' on' oc', .slice ka' kn' kc'] 28))
        have HB1 := Lib.hid (blk_alloc HB1'.out (.cells #[.int .i64 k', .string tx', .int .i64 m', .int .i64 tk', .int .i64 tm', .string nm', .slice oa' on' oc', .slice ka' kn' kc'] 28))
        have HG3 := Lib.hid (gr_alloc HG2'.out (.cells #[.int .i64 k', .string tx', .int .i64 m', .int .i64 tk', .int .i64 tm', .string nm', .slice oa' on' oc', .slice ka' kn' kc'] 28))
        have HK1 := Lib.hid (HK1'.out.grow (gr_alloc (grownBy_refl w3 none) (.cells #[.int .i64 k', .string tx', .int .i64 m', .int .i64 tk', .int .i64 tm', .string nm', .slice oa' on' oc', .slice ka' kn' kc'] 28)))
        have HK2 := Lib.hid (hkd'.out.grow (gr_alloc (grownBy_refl w3 none) (.cells #[.int .i64 k', .string tx', .int .i64 m', .int .i64 tk', .int .i64 tm', .string nm', .slice oa' on' oc', .slice ka' kn' kc'] 28)))
        clear HB1' HK1' HG2' hkd' hbytes
        generalize w3.alloc (.cells #[.int .i64 k', .string tx', .int .i64 m', .int .i64 tk', .int .i64 tm', .string nm', .slice oa' on' oc', .slice ka' kn' kc'] 28) = W3 at *
        generalize w3.heap.size = b2 at *
        refine (Parse_ok (HV.out.grow HG3.out) hR3).mono ?_
        rintro e w4 ⟨hg4, k5, m5, tk5, tm5, tx5, nm5, oa5, on5, oc5, ka5, kn5, kc5, rfl, hat, hof5, hkd5⟩
        have hat' : k5 = 23 ∧ tx5 = ⟨#[]⟩ ∧ m5 = 0 ∧ tk5 = 0 ∧ tm5 = 0 ∧ nm5 = ⟨#[]⟩ := hat.out
        obtain ⟨rfl, rfl, rfl, rfl, rfl, rfl⟩ := hat'
        have hof5' : Hid (RepOf w4 (fun g => W3.heap.size ≤ g) (.slice oa5 on5 oc5) []) := hof5
        have hkd5' : Hid (RepK w4 (fun g => W3.heap.size ≤ g) (.slice ka5 kn5 kc5) (n1.kids ++ n2.kids)) := hkd5
        have HG4 := Lib.hid (gr_alloc (grownBy_trans HG3.out hg4) (.cells #[.int .i64 23, .string ⟨#[]⟩, .int .i64 0, .int .i64 0, .int .i64 0, .string ⟨#[]⟩, .slice oa5 on5 oc5, .slice ka5 kn5 kc5] 28))
        have HC4 := Lib.hid (blk_new w4 (.cells #[.int .i64 23, .string ⟨#[]⟩, .int .i64 0, .int .i64 0, .int .i64 0, .string ⟨#[]⟩, .slice oa5 on5 oc5, .slice ka5 kn5 kc5] 28))
        have HA4 := Lib.hid (blk_alloc (blk_call HB1.out hg4 (by simp)) (.cells #[.int .i64 23, .string ⟨#[]⟩, .int .i64 0, .int .i64 0, .int .i64 0, .string ⟨#[]⟩, .slice oa5 on5 oc5, .slice ka5 kn5 kc5] 28))
        have HB4 := Lib.hid (blk_alloc (blk_call HB2.out hg4 (by simp)) (.cells #[.int .i64 23, .string ⟨#[]⟩, .int .i64 0, .int .i64 0, .int .i64 0, .string ⟨#[]⟩, .slice oa5 on5 oc5, .slice ka5 kn5 kc5] 28))
        have HK41 := Lib.hid ((HK1.out.grow hg4).grow (gr_alloc (grownBy_refl w4 none) (.cells #[.int .i64 23, .string ⟨#[]⟩, .int .i64 0, .int .i64 0, .int .i64 0, .string ⟨#[]⟩, .slice oa5 on5 oc5, .slice ka5 kn5 kc5] 28)))
        have HK42 := Lib.hid ((HK2.out.grow hg4).grow (gr_alloc (grownBy_refl w4 none) (.cells #[.int .i64 23, .string ⟨#[]⟩, .int .i64 0, .int .i64 0, .int .i64 0, .string ⟨#[]⟩, .slice oa5 on5 oc5, .slice ka5 kn5 kc5] 28)))
        have HK45 := Lib.hid (hkd5'.out.grow (gr_alloc (grownBy_refl w4 none) (.cells #[.int .i64 23, .string ⟨#[]⟩, .int .i64 0, .int .i64 0, .int .i64 0, .string ⟨#[]⟩, .slice oa5 on5 oc5, .slice ka5 kn5 kc5] 28)))
        have HO45 := Lib.hid (hof5'.out.grow (gr_alloc (grownBy_refl w4 none) (.cells #[.int .i64 23, .string ⟨#[]⟩, .int .i64 0, .int .i64 0, .int .i64 0, .string ⟨#[]⟩, .slice oa5 on5 oc5, .slice ka5 kn5 kc5] 28)))
        clear hat hof5 hkd5 hof5' hkd5' hg4 HB1 HB2 HK1 HK2 HG3 hR3
        go_wp2_with fail
        generalize w4.alloc (.cells #[.int .i64 23, .string ⟨#[]⟩, .int .i64 0, .int .i64 0, .int .i64 0, .string ⟨#[]⟩, .slice oa5 on5 oc5, .slice ka5 kn5 kc5] 28) = W4 at *
        generalize w4.heap.size = b3 at *
        have b7 := cell_of_row _ _ 7 _ _ _ HA4.out
        have c7 := cell_of_row _ _ 7 _ _ _ HB4.out
        simp at b7 c7
        have hbl := lt_of_heap HA4.out
        have hbl2 := lt_of_heap HB4.out
        have HX1 := Lib.hid (HK41.out.mono (S' := fun g => g < W4.heap.size) (fun g _ h => h) (fun _ _ _ => rfl))
        have HX2 := Lib.hid (HK42.out.mono (S' := fun g => g < W4.heap.size) (fun g _ h => h) (fun _ _ _ => rfl))
        have HL1 := Lib.hid (kids_len HR.out)
        have HL2 := Lib.hid (kids_len HR2.out)
        have HGr := Lib.hid (grownBy_refl W4 none)
        clear HK41 HK42 HR HR2
        have Ei := Lib.hid (show ((W4.alloc (.cells #[] 28)).drew).heap[W4.heap.size]? = some (.cells #[] 28) from blk_dr (blk_new W4 _))
        have Ej := Lib.hid (show (((W4.alloc (.cells #[] 28)).alloc (.cells #[.int .i64 0, .string ⟨#[]⟩, .int .i64 0, .int .i64 0, .int .i64 0, .string ⟨#[]⟩, .slice none 0 0, .slice none 0 0] 28)).drew).heap[W4.heap.size]? = some (.cells #[] 28) from blk_dr (blk_alloc (blk_new W4 _) _))
        have Ek := Lib.hid (show (((W4.alloc (.cells #[.int .i64 0, .string ⟨#[]⟩, .int .i64 0, .int .i64 0, .int .i64 0, .string ⟨#[]⟩, .slice none 0 0, .slice none 0 0] 28)).alloc (.cells #[] 28)).drew).heap[W4.heap.size + 1]? = some (.cells #[] 28) from blk_dr (blk_new2 W4 _ _))
        have Zj := Lib.hid (show (((W4.alloc (.cells #[] 28)).alloc (.cells #[.int .i64 0, .string ⟨#[]⟩, .int .i64 0, .int .i64 0, .int .i64 0, .string ⟨#[]⟩, .slice none 0 0, .slice none 0 0] 28)).drew).heap[W4.heap.size + 1]? = some (.cells #[.int .i64 0, .string ⟨#[]⟩, .int .i64 0, .int .i64 0, .int .i64 0, .string ⟨#[]⟩, .slice none 0 0, .slice none 0 0] 28) from blk_dr (blk_new2 W4 _ _))
        have Zk := Lib.hid (show (((W4.alloc (.cells #[.int .i64 0, .string ⟨#[]⟩, .int .i64 0, .int .i64 0, .int .i64 0, .string ⟨#[]⟩, .slice none 0 0, .slice none 0 0] 28)).alloc (.cells #[] 28)).drew).heap[W4.heap.size]? = some (.cells #[.int .i64 0, .string ⟨#[]⟩, .int .i64 0, .int .i64 0, .int .i64 0, .string ⟨#[]⟩, .slice none 0 0, .slice none 0 0] 28) from blk_dr (blk_alloc (blk_new W4 _) _))
        have Gi := Lib.hid (show W4.grownBy ((W4.alloc (.cells #[] 28)).drew) none by repeat (first | with_reducible exact grownBy_refl _ _ | with_reducible assumption | with_reducible refine World.grownBy.gr_drew ?_ | with_reducible refine World.grownBy.gr_set ?_ (by simp) _ | with_reducible refine gr_alloc ?_ _))
        have Gj := Lib.hid (show W4.grownBy (((W4.alloc (.cells #[] 28)).alloc (.cells #[.int .i64 0, .string ⟨#[]⟩, .int .i64 0, .int .i64 0, .int .i64 0, .string ⟨#[]⟩, .slice none 0 0, .slice none 0 0] 28)).drew) none by repeat (first | with_reducible exact grownBy_refl _ _ | with_reducible assumption | with_reducible refine World.grownBy.gr_drew ?_ | with_reducible refine World.grownBy.gr_set ?_ (by simp) _ | with_reducible refine gr_alloc ?_ _))
        have Gk := Lib.hid (show W4.grownBy (((W4.alloc (.cells #[.int .i64 0, .string ⟨#[]⟩, .int .i64 0, .int .i64 0, .int .i64 0, .string ⟨#[]⟩, .slice none 0 0, .slice none 0 0] 28)).alloc (.cells #[] 28)).drew) none by repeat (first | with_reducible exact grownBy_refl _ _ | with_reducible assumption | with_reducible refine World.grownBy.gr_drew ?_ | with_reducible refine World.grownBy.gr_set ?_ (by simp) _ | with_reducible refine gr_alloc ?_ _))
        clear HGr
        go_cut [15] from 53 to 60 (fun v wx => WantRel w b3 #[.int .i64 23, .string ⟨#[]⟩, .int .i64 0, .int .i64 0, .int .i64 0, .string ⟨#[]⟩, .slice oa5 on5 oc5, .slice ka5 kn5 kc5] (.slice oa5 on5 oc5) (.slice ka5 kn5 kc5) (n1.kids ++ n2.kids) v wx)
        case first =>
          go_region_law (first
            | (refine step_append_row (w := (W4.alloc (.cells #[] 28)).drew) (S := fun g => g < W4.heap.size) (B := W4.heap.size) (l1 := []) (l2 := n1.kids) (c1 := []) (v := .slice (some ⟨W4.heap.size, 0, none⟩) 0 0) rfl (.tmp 53) (.tmp 55) rfl rfl rfl (own_e Ei.out) rfl (HX1.out.grow Gi.out) (fun k hk => by have e := own_is hk; omega) (fun _ h => h) Gi.out.size (by have := HL1.out; simp; omega) ?_; intro a5 n5 c5 w5 cs5 ho5 he5 hb5 hw5 hg5; have HF5 := Lib.hid (And.intro ho5 (And.intro he5 hb5)); have HG5 := Lib.hid (gr_own Gi.out hg5 (fun k hk => by have e := own_is hk; omega)); have c7' := cell_of_row _ _ 7 _ _ _ (blk_call HB4.out HG5.out (by simp)); simp at c7'; have hbl5 := lt_of_heap (blk_call HB4.out HG5.out (by simp)); clear ho5 he5 hb5 hw5 hg5)
            | (refine step_append_row (w := ((W4.alloc (.cells #[] 28)).alloc (.cells #[.int .i64 0, .string ⟨#[]⟩, .int .i64 0, .int .i64 0, .int .i64 0, .string ⟨#[]⟩, .slice none 0 0, .slice none 0 0] 28)).drew) (S := fun g => g < W4.heap.size) (B := W4.heap.size) (l1 := []) (l2 := n1.kids) (c1 := []) (v := .slice (some ⟨W4.heap.size, 0, none⟩) 0 0) rfl (.tmp 53) (.tmp 55) rfl rfl rfl (own_e Ej.out) rfl (HX1.out.grow Gj.out) (fun k hk => by have e := own_is hk; omega) (fun _ h => h) Gj.out.size (by have := HL1.out; simp; omega) ?_; intro a5 n5 c5 w5 cs5 ho5 he5 hb5 hw5 hg5; have HF5 := Lib.hid (And.intro ho5 (And.intro he5 hb5)); have HG5 := Lib.hid (gr_own Gj.out hg5 (fun k hk => by have e := own_is hk; omega)); have HZ5 := Lib.hid (z_keep Zj.out hg5 (fun e => by have := own_is e; omega) hw5); have c7' := cell_of_row _ _ 7 _ _ _ (blk_call HB4.out HG5.out (by simp)); simp at c7'; have hbl5 := lt_of_heap (blk_call HB4.out HG5.out (by simp)); clear ho5 he5 hb5 hw5 hg5)
            | (refine step_append_row (w := ((W4.alloc (.cells #[.int .i64 0, .string ⟨#[]⟩, .int .i64 0, .int .i64 0, .int .i64 0, .string ⟨#[]⟩, .slice none 0 0, .slice none 0 0] 28)).alloc (.cells #[] 28)).drew) (S := fun g => g < W4.heap.size) (B := W4.heap.size) (l1 := []) (l2 := n1.kids) (c1 := []) (v := .slice (some ⟨(W4.heap.size + 1), 0, none⟩) 0 0) rfl (.tmp 53) (.tmp 55) rfl rfl rfl (own_e Ek.out) rfl (HX1.out.grow Gk.out) (fun k hk => by have e := own_is hk; omega) (fun _ h => h) Gk.out.size (by have := HL1.out; simp; omega) ?_; intro a5 n5 c5 w5 cs5 ho5 he5 hb5 hw5 hg5; have HF5 := Lib.hid (And.intro ho5 (And.intro he5 hb5)); have HG5 := Lib.hid (gr_own Gk.out hg5 (fun k hk => by have e := own_is hk; omega)); have HZ5 := Lib.hid (z_keep Zk.out hg5 (fun e => by have := own_is e; omega) hw5); have c7' := cell_of_row _ _ 7 _ _ _ (blk_call HB4.out HG5.out (by simp)); simp at c7'; have hbl5 := lt_of_heap (blk_call HB4.out HG5.out (by simp)); clear ho5 he5 hb5 hw5 hg5)
            | (refine step_append_row (w := w5.alloc (.cells #[.int .i64 0, .string ⟨#[]⟩, .int .i64 0, .int .i64 0, .int .i64 0, .string ⟨#[]⟩, .slice none 0 0, .slice none 0 0] 28)) (S := fun g => g < W4.heap.size) (B := W4.heap.size) (l1 := [] ++ n1.kids) (l2 := n2.kids) (c1 := cs5) (v := .slice a5 n5 c5) rfl (.tmp 56) (.tmp 58) rfl rfl rfl (HF5.out.1.alloc _) (nl_alloc HF5.out.2.1 _) (HX2.out.grow (gr_alloc HG5.out _)) HF5.out.2.2 (fun _ h => h) (gr_alloc HG5.out (.cells #[.int .i64 0, .string ⟨#[]⟩, .int .i64 0, .int .i64 0, .int .i64 0, .string ⟨#[]⟩, .slice none 0 0, .slice none 0 0] 28)).size (by have := HL1.out; have := HL2.out; simp; omega) ?_; intro a6 n6 c6 w6 cs6 ho6 he6 hb6 hw6 hg6; have HF6 := Lib.hid (And.intro ho6 (And.intro he6 hb6)); have HG6 := Lib.hid (gr_own (gr_alloc HG5.out (.cells #[.int .i64 0, .string ⟨#[]⟩, .int .i64 0, .int .i64 0, .int .i64 0, .string ⟨#[]⟩, .slice none 0 0, .slice none 0 0] 28)) hg6 HF5.out.2.2); have hz6 := z_keep (blk_new w5 _) hg6 (fun e => by have := (HF5.out.1.lt _ e).2; omega) hw6; have HN6 := Lib.hid hz6.2; replace hz6 := hz6.1; have HZ6 := Lib.hid hz6; obtain ⟨⟨z0, z1, z2, z3, z4, z5, z6, z7⟩, e0, e1, e2, e3, e4, e5, e6, e7⟩ := cells8_of w6 _ _ _ _ _ _ _ _ _ _ hz6; have hzl := lt_of_heap hz6; clear hz6; clear ho6 he6 hb6 hw6 hg6)
            | (refine step_append_row (w := w5) (S := fun g => g < W4.heap.size) (B := W4.heap.size) (l1 := [] ++ n1.kids) (l2 := n2.kids) (c1 := cs5) (v := .slice a5 n5 c5) rfl (.tmp 56) (.tmp 58) rfl rfl rfl HF5.out.1 HF5.out.2.1 (HX2.out.grow HG5.out) HF5.out.2.2 (fun _ h => h) HG5.out.size (by have := HL1.out; have := HL2.out; simp; omega) ?_; intro a6 n6 c6 w6 cs6 ho6 he6 hb6 hw6 hg6; have HF6 := Lib.hid (And.intro ho6 (And.intro he6 hb6)); have HG6 := Lib.hid (gr_own HG5.out hg6 HF5.out.2.2); have hz6 := z_keep HZ5.out.1 hg6 HZ5.out.2 hw6; have HN6 := Lib.hid hz6.2; replace hz6 := hz6.1; have HZ6 := Lib.hid hz6; obtain ⟨⟨z0, z1, z2, z3, z4, z5, z6, z7⟩, e0, e1, e2, e3, e4, e5, e6, e7⟩ := cells8_of w6 _ _ _ _ _ _ _ _ _ _ hz6; have hzl := lt_of_heap hz6; clear hz6; clear ho6 he6 hb6 hw6 hg6)
            | (refine step_append_row (w := w5) (S := fun g => g < W4.heap.size) (B := W4.heap.size) (l1 := [] ++ n1.kids) (l2 := n2.kids) (c1 := cs5) (v := .slice a5 n5 c5) rfl (.tmp 56) (.tmp 58) rfl rfl rfl HF5.out.1 HF5.out.2.1 (HX2.out.grow HG5.out) HF5.out.2.2 (fun _ h => h) HG5.out.size (by have := HL1.out; have := HL2.out; simp; omega) ?_; intro a6 n6 c6 w6 cs6 ho6 he6 hb6 hw6 hg6; have HF6 := Lib.hid (And.intro ho6 (And.intro he6 hb6)); have HG6 := Lib.hid (gr_own HG5.out hg6 HF5.out.2.2); clear ho6 he6 hb6 hw6 hg6))
          all_goals
            clear HX1 HX2
            go_wp2_with fail
            go_meet
            case rel =>
              first
              | (have hzz := HZ6.out; exact want_put HG4.out HG6.out HC4.out HO45.out HK45.out (by first | omega | (have := HG5.out.size; omega)) hzz HF6.out.1 HF6.out.2.1 HN6.out)
              | exact want_new HG4.out HG6.out HC4.out HO45.out HK45.out (joined HF6.out.1 HF6.out.2.1)
        case rest =>
          obtain ⟨bz, a6, n6, c6, S6, S7, rfl, hg6, hb6, hz6, ho6, hk6, hk7⟩ := hcut
          have hbl3 := lt_of_heap hb6.out
          have hbl4 := lt_of_heap hz6.out
          obtain ⟨⟨d0, d1, d2, d3, d4, d5, d6, d7⟩, _⟩ := cells8_of wc b3 _ _ _ _ _ _ _ _ _ hb6.out
          obtain ⟨⟨z0, z1, z2, z3, z4, z5, z6, z7⟩, _⟩ := cells8_of wc bz _ _ _ _ _ _ _ _ _ hz6.out
          clear HX1 HX2 HO45 HK45 HA4 HB4 HC4 Ei Ej Ek Zj Zk Gi Gj Gk b7 c7 hbl hbl2
          go_wp2_with fail
          refine (same_vals (Nd.of 23 (n1.kids ++ n2.kids)) (show AsN _ 23 ⟨#[]⟩ 0 0 0 ⟨#[]⟩ from ⟨rfl, rfl, rfl, rfl, rfl, rfl⟩) (show AsN _ 23 ⟨#[]⟩ 0 0 0 ⟨#[]⟩ from ⟨rfl, rfl, rfl, rfl, rfl, rfl⟩) ho6.out (RepOf.nil _ (fun _ => True)) hk6.out (hk7.out.mono (S' := fun _ => True) (fun _ _ _ => trivial) (fun _ _ _ => rfl))).mono ?_
          rintro e w8 ⟨rfl, hg8⟩
          have HG8 := Lib.hid (grownBy_trans hg6.out hg8)
          clear hg8
          go_wp2_with fail
          go_ret
          exact ⟨rfl, HG8.out⟩

end Go.Proofs.YtkbplcfehllbjaaGreatDoor
