/- Merged: Q10, S1, Q11, Q12. -/
import Derived.Test.YtkbplcfehllbjaaGreatDoorMk2
/- list, of nodes. -/
namespace Go.Proofs.YtkbplcfehllbjaaGreatDoor
open Go.RowKit
/-- A slice that the call grows: l lies in it, none of l's blocks is its own row. -/
def GrowN (w : World) (B : Nat) (v : Value) (l : List Nd) (cells : List Value) : Prop :=
  w.ownsRow B 28 8 v l.length cells ∧ RepNl w (fun g => B ≤ g ∧ v.ownBlock ≠ some g) l cells
theorem GrowN.nil (w : World) (B : Nat) : GrowN w B (.slice none 0 0) [] [] := ⟨World.ownsRow_nil _ _ _ _, rfl⟩
theorem GrowN.call {w w' : World} {B r : Nat} {v : Value} {l : List Nd} {cells : List Value} (h : GrowN w B v l cells) (g : w.grownBy w' (some r)) (hr : r < B) : GrowN w' B v l cells :=
  ⟨ownsRow_call h.1 g hr, RepNl.mono (fun _ hs _ => hs) (fun k hs hk => g.block k hk (by have := hs.1; simp; omega)) l cells h.2⟩
theorem GrowN.call0 {w w' : World} {B : Nat} {v : Value} {l : List Nd} {cells : List Value} (h : GrowN w B v l cells) (g : w.grownBy w' none) : GrowN w' B v l cells :=
  ⟨ownsRow_call0 h.1 g, RepNl.mono (fun _ hs _ => hs) (fun k _ hk => g.block k hk (by simp)) l cells h.2⟩
theorem GrowN.lt {w : World} {B : Nat} {v : Value} {l : List Nd} {cells : List Value} (h : GrowN w B v l cells) : ∀ k, v.ownBlock = some k → B ≤ k ∧ k < w.heap.size := h.1.lt
theorem GrowN.push {w w' : World} {B H g cap : Nat} {v ofv kv : Value} {l : List Nd} {a : Nd} {cells : List Value} (h : GrowN w B v l cells) (hn : RepOf w (fun g => B ≤ g ∧ v.ownBlock ≠ some g) ofv a.typ.of) (hk' : RepK w (fun g => B ≤ g ∧ v.ownBlock ≠ some g) kv a.kids)
    (ho : w'.ownsRow B 28 8 (.slice (some ⟨g, 0, none⟩) (l.length + 1) cap) (l.length + 1) (cells ++ ndC a ofv kv)) (hg : w.grownBy w' v.ownBlock) (hat : v.ownBlock = some g ∨ g = H) (hH : w.heap.size = H) :
    GrowN w' B (.slice (some ⟨g, 0, none⟩) (l.length + 1) cap) (l ++ [a]) (cells ++ ndC a ofv kv) := by
  refine ⟨by simpa using ho, RepNl.mono ?_ (fun k hs hk => hg.block k hk (fun e => hs.2 e.symm)) _ _ (RepNl.snoc l a cells _ h.2 (RepN.of hn hk'))⟩
  intro k hs hk
  refine ⟨hs.1, fun e => ?_⟩
  simp [Value.ownBlock] at e
  subst e
  rcases hat with h1 | h1
  · exact hs.2 h1
  · omega
theorem GrowN.done {w : World} {B : Nat} {v : Value} {l : List Nd} {cells : List Value} (h : GrowN w B v l cells) : RepK w (fun g => B ≤ g) v l :=
  ⟨cells, by obtain ⟨h1, h2⟩ := h.1; exact ⟨h1, h2.imp id fun ⟨g, cap, cur, e, _, r⟩ => ⟨g, cap, cur, e, Nat.zero_le _, r⟩⟩, fun g hg => (h.1.lt g hg).1, RepNl.mono (fun _ hs _ => hs.1) (fun _ _ _ => rfl) l cells h.2⟩
theorem GrowN.freshK {w : World} {B A : Nat} {v ofv : Value} {m : List Nd} (h : RepK w (fun g => A ≤ g) ofv m) (hB : B ≤ A) (hv : ∀ k, v.ownBlock = some k → k < A) : RepK w (fun g => B ≤ g ∧ v.ownBlock ≠ some g) ofv m :=
  h.mono (fun g hs _ => ⟨Nat.le_trans hB hs, fun e => by have := hv g e; have : A ≤ g := hs; omega⟩) (fun _ _ _ => rfl)
def ndVal (n : Nd) (w0 w' : World) (v : Value) : Prop := ∃ ofv kv, v = ndV n ofv kv ∧ RepOf w' (fun g => w0.heap.size ≤ g) ofv n.typ.of ∧ RepK w' (fun g => w0.heap.size ≤ g) kv n.kids
def RunsN (f : Nat) (C : Ctx) (d : Nat) (one : List T4 → PR Nd) : Prop := ∀ (w : World) (i : Nat), Pr C w i d → Calls Tryz.prog f #[C.p] w (Out C w d (one (C.toks.drop i)) (fun t => ndVal t w))
def ndsVal (l : List Nd) (w0 w' : World) (v : Value) : Prop := RepK w' (fun g => w0.heap.size ≤ g) v l
theorem infoNd : (Tryz.prog.info? 28).map (fun i => (i.zero, i.size, i.bytes)) = some (some (.agg #[.int .i64 0, .string ⟨#[]⟩, .int .i64 0, .int .i64 0, .int .i64 0, .string ⟨#[]⟩, .slice none 0 0, .slice none 0 0]), 8, 112) := by kernel_rfl
set_option maxRecDepth 100000 in
set_option maxHeartbeats 8000000 in
theorem listN_decl (C : Ctx) (one : List T4 → PR Nd) (hsh : Shrinks one) (w : World) (i d : Nat) (h1 : RunsN 71 C d one) (h : Pr C w i d) :
    Calls Tryz.prog 73 #[C.p, .func (.func 71) #[C.p] #[]] w (Out C w d (listP one (C.toks.drop i)) (fun l => ndsVal l w)) := by
  have HP := Lib.hid h.at
  have hlen := h.len
  have hbp := lt_of_heap h.blk
  have hi0 := h.lt
  have H1 := Lib.hid h1
  have hW := want_any C w i d h [40] (by simp)
  unfold listP
  generalize hR0 : wantP [40] (C.toks.drop i) = R0 at hW ⊢
  have HW := Lib.hid hW
  clear h hW h1
  go_enter Tryz.func73, Tryz.ntmps73
  go_wp2_with fail
  refine HW.out.mono ?_
  cases R0 with
  | err p er =>
    rintro e w1 ⟨hg, i1, d1, rfl, hdd, hp⟩
    exact ⟨rfl, (HP.out.turn hg hp).errOut rfl⟩
  | ok u r =>
    rintro e w1 ⟨hg, v1, i1, rfl, hv, hp, hd⟩
    have hv' : v1 = .tuple #[] := hv
    subst hv'
    subst hd
    have HA1 := Lib.hid (HP.out.turn hg hp)
    have hi1 := hp.lt
    clear hg hp hv HW
    cases hs : isP [41] (C.toks.drop i1) with
    | true =>
      have HY := Lib.hid (fun w' (h' : Pr C w' i1 d) => skip_yes C w' i1 d h' [41] (by simp) hs)
      have HS := Lib.hid hs
      clear hs
      go_wp2_with fail
      refine (HY.out _ HA1.out.pr).mono ?_
      rintro e w2 ⟨rfl, hg2, hp2⟩
      have HA2 := Lib.hid (HA1.out.turn hg2 hp2)
      clear hg2 hp2
      go_wp2_with fail
      go_ret
      exact HA2.out.okOut (a := []) (rest := C.toks.drop (i1 + 1)) (by show (if _ then _ else _) = _; rw [if_pos HS.out, tl_at]) (RepK.nil _ _) rfl
    | false =>
      have HN := Lib.hid (fun w' (h' : Pr C w' i1 d) => skip_no C w' i1 d h' [41] hs)
      have HS := Lib.hid hs
      clear hs
      go_wp2_with fail
      refine (HN.out _ HA1.out.pr).mono ?_
      rintro e w2 ⟨rfl, hg2⟩
      have HA2 := Lib.hid (HA1.out.call hg2)
      clear hg2
      go_wp2_with fail
      go_loopg [5] (C.toks.length - i1) (fun g v wr => ∃ (i' n : Nat) (acc : List Nd) (cells : List Value), g = C.toks.length - i' ∧ i' < C.toks.length ∧ acc.length < 6 ∧ C.toks.length - i' < n ∧ Hid (At C w wr i' d) ∧ Hid (GrowN wr w.heap.size v acc cells) ∧ Hid (loopP (listStep one) ((C.toks.drop i1).length + 1) [] (C.toks.drop i1) = loopP (listStep one) n acc (C.toks.drop i')))
      case atStart => exact ⟨i1, (C.toks.drop i1).length + 1, [], [], rfl, hi1, by simp, by simp, HA2.out, GrowN.nil _ _, rfl⟩
      case round =>
        obtain ⟨i', n, acc, cells, rfl, hi', hacc, hn, hat, hgr, hL⟩ := hrel
        obtain ⟨m, rfl⟩ : ∃ m, n = m + 1 := ⟨n - 1, by omega⟩
        have h1' := H1.out wr i' hat.out.pr
        have hshr := hsh (C.toks.drop i')
        generalize hR1 : one (C.toks.drop i') = R1 at h1' hshr
        have HC := Lib.hid h1'
        clear h1'
        go_wp2_with fail
        refine HC.out.mono ?_
        cases R1 with
        | err p er =>
          rintro e w3 ⟨hg3, i3, d3, rfl, hdd, hp3⟩
          exact ⟨rfl, (hat.out.turn hg3 hp3).errOut (by show (if _ then _ else _) = _; rw [if_neg (by rw [HS.out]; simp), hL.out, list_err hR1])⟩
        | ok a r =>
          rintro e w3 ⟨hg3, v3, i3, rfl, ⟨ofv, kv, rfl, hof, hkv⟩, hp3, rfl⟩
          have hi3 := hp3.lt
          have hsm : i' < i3 := by have := hshr _ _ (drop_ne hi') rfl; simp at this; omega
          have hown := fun k hk => (hgr.out.lt k hk).2
          obtain ⟨sa, sn, sc, rfl⟩ := hof.isSlice
          obtain ⟨ka, kn, kc, rfl⟩ := hkv.isSlice
          have HOF := Lib.hid (GrowT.fresh hof (hat.out.gr.size) hown)
          have HKV := Lib.hid (GrowN.freshK hkv (hat.out.gr.size) hown)
          have HG3 := Lib.hid (hgr.out.call hg3 hbp)
          have HA3 := Lib.hid (hat.out.turn hg3 hp3)
          have HR1 := Lib.hid hR1
          have hz3 := HA3.out.gr.size
          obtain ⟨i0, hi, hz0, hz1, hz2⟩ := info_parts infoNd
          clear hg3 hp3 hof hkv hshr hown hR1 HC
          unfold ndV
          go_wp2_with (at_builtin; go_must (refine wpList_append_lies _ rfl (.tmp 11) (.tmp 14) 26 rfl w.heap.size 28 i0 _ 8 112 Tryz.underlying26 hi hz0 hz1 hz2 rfl (by decide) _ acc.length cells rfl (HG3.out.call0 (gr_alloc (grownBy_refl _ _) _)).1 ⟨w3.heap.size, 0, none⟩ 1 1 (ndC a (.slice sa sn sc) (.slice ka kn kc)) rfl rfl ?_ ?_ (by omega) ?_ ?_ ?_ (w3.heap.size + 1) ?_ ?_))
          · exact cells_at _ _ _ _
          · intro u hu; simp [ndC] at hu; rcases hu with rfl | rfl | rfl | rfl | rfl | rfl | rfl | rfl <;> rfl
          · unfold maxLen; omega
          · omega
          · simp; omega
          · simp
          intro g cap w4 hown' hgrow hat' hlt'
          have HG4 := Lib.hid (GrowN.push (HG3.out.call0 (gr_alloc (grownBy_refl _ _) _)) (HOF.out.grow (gr_alloc (grownBy_refl _ _) _)) (HKV.out.grow (gr_alloc (grownBy_refl _ _) _)) hown' hgrow hat' (by simp))
          have HA4 := Lib.hid ((HA3.out.alloc _).app hgrow (fun k hk => (HG3.out.lt k hk).1))
          clear hown' hgrow hat' hlt' hi hz0 hz1 hz2
          have hl1 : (acc ++ [a]).length = acc.length + 1 := by simp
          cases hs2 : isP [44] (C.toks.drop i3) with
          | false =>
            have HN2 := Lib.hid (fun w' (h' : Pr C w' i3 d) => is_is false C w' i3 d h' [44] hs2)
            have HE := Lib.hid (show (if isP [41] (C.toks.drop i1) = true then PR.ok [] (C.toks.drop i1).tail else loopP (listStep one) ((C.toks.drop i1).length + 1) [] (C.toks.drop i1)) = _ by rw [if_neg (by rw [HS.out]; simp), hL.out, list_end HR1.out hs2])
            clear hs2
            go_wp2_with fail
            refine (HN2.out _ HA4.out.pr).mono ?_
            rintro e w5 ⟨rfl, hg5⟩
            have HA5 := Lib.hid (HA4.out.call hg5)
            have HG5 := Lib.hid (HG4.out.call0 hg5)
            clear hg5
            go_wp2_with fail
            refine (want_any C _ i3 d HA5.out.pr [41] (by simp)).mono ?_
            generalize wantP [41] (C.toks.drop i3) = R2 at HE
            cases R2 with
            | err p er =>
              rintro e w6 ⟨hg6, i6, d6, rfl, hdd, hp6⟩
              exact ⟨rfl, (HA5.out.turn hg6 hp6).errOut HE.out⟩
            | ok u r6 =>
              rintro e w6 ⟨hg6, v6, i6, rfl, hv6, hp6, hd6⟩
              have HA6 := Lib.hid (HA5.out.turn hg6 hp6)
              have HG6 := Lib.hid (HG5.out.call hg6 hbp)
              have hv6' : v6 = .tuple #[] := hv6
              subst hv6'
              have HD6 := Lib.hid hd6
              clear hg6 hp6 hv6 hd6
              go_wp2_with fail
              go_ret
              exact HA6.out.okOut HE.out HG6.out.done HD6.out
          | true =>
            have HY2 := Lib.hid (fun w' (h' : Pr C w' i3 d) => is_is true C w' i3 d h' [44] hs2)
            have HS2 := Lib.hid hs2
            clear hs2
            go_wp2_with fail
            refine (HY2.out _ HA4.out.pr).mono ?_
            rintro e w5 ⟨rfl, hg5⟩
            have HA5 := Lib.hid (HA4.out.call hg5)
            have HG5 := Lib.hid (HG4.out.call0 hg5)
            clear hg5
            by_cases h6 : acc.length = 5
            · have l6 : ((acc.length : Int) + 1 == 6) = true := by simp; omega
              have HE := Lib.hid (show (if isP [41] (C.toks.drop i1) = true then PR.ok [] (C.toks.drop i1).tail else loopP (listStep one) ((C.toks.drop i1).length + 1) [] (C.toks.drop i1)) = _ by rw [if_neg (by rw [HS.out]; simp), hL.out, list_six HR1.out HS2.out (by omega)])
              clear h6
              go_wp2_with fail
              refine (fail_any 5 C _ i3 d HA5.out.pr).mono ?_
              rintro e w6 ⟨rfl, hg6⟩
              exact ⟨rfl, (HA5.out.call hg6).errOut HE.out⟩
            · have l6 : ((acc.length : Int) + 1 == 6) = false := by simp; omega
              have HE := Lib.hid (hL.out.trans (list_more HR1.out HS2.out (by omega)))
              have hwt : wantP [44] (C.toks.drop i3) = .ok () (C.toks.drop (i3 + 1)) := by unfold wantP; rw [if_pos HS2.out, tl_at]
              have HW2 := Lib.hid (want_any C _ i3 d HA5.out.pr [44] (by simp))
              rw [hwt] at HW2
              have hl2 := next_lt HA5.out.pr (by simp) HS2.out
              clear hwt
              go_wp2_with fail
              refine HW2.out.mono ?_
              rintro e w6 ⟨hg6, v6, i6, rfl, hv6, hp6, hd6⟩
              have HA6 := Lib.hid (HA5.out.turn hg6 hp6)
              have HG6 := Lib.hid (HG5.out.call hg6 hbp)
              have hv6' : v6 = .tuple #[] := hv6
              subst hv6'
              have hi6 := hp6.lt
              have hi7 : i6 = i3 + 1 := by
                have e := congrArg List.length hd6
                simp at e; omega
              subst hi7
              clear hg6 hp6 hv6 hd6 HW2
              go_wp2_with fail
              go_roundg (C.toks.length - (i3 + 1))
              case measure => omega
              case rel => exact ⟨i3 + 1, m, acc ++ [a], _, rfl, hi6, by simp; omega, by omega, HA6.out, HG6.out, by rw [← tl_at]; exact HE.out⟩
set_option maxRecDepth 100000 in
set_option maxHeartbeats 8000000 in
theorem listN_expr (C : Ctx) (one : List T4 → PR Nd) (hsh : Shrinks one) (w : World) (i d : Nat) (h1 : RunsN 100 C d one) (h : Pr C w i d) :
    Calls Tryz.prog 73 #[C.p, .func (.func 100) #[C.p] #[]] w (Out C w d (listP one (C.toks.drop i)) (fun l => ndsVal l w)) := by
  have HP := Lib.hid h.at
  have hlen := h.len
  have hbp := lt_of_heap h.blk
  have hi0 := h.lt
  have H1 := Lib.hid h1
  have hW := want_any C w i d h [40] (by simp)
  unfold listP
  generalize hR0 : wantP [40] (C.toks.drop i) = R0 at hW ⊢
  have HW := Lib.hid hW
  clear h hW h1
  go_enter Tryz.func73, Tryz.ntmps73
  go_wp2_with fail
  refine HW.out.mono ?_
  cases R0 with
  | err p er =>
    rintro e w1 ⟨hg, i1, d1, rfl, hdd, hp⟩
    exact ⟨rfl, (HP.out.turn hg hp).errOut rfl⟩
  | ok u r =>
    rintro e w1 ⟨hg, v1, i1, rfl, hv, hp, hd⟩
    have hv' : v1 = .tuple #[] := hv
    subst hv'
    subst hd
    have HA1 := Lib.hid (HP.out.turn hg hp)
    have hi1 := hp.lt
    clear hg hp hv HW
    cases hs : isP [41] (C.toks.drop i1) with
    | true =>
      have HY := Lib.hid (fun w' (h' : Pr C w' i1 d) => skip_yes C w' i1 d h' [41] (by simp) hs)
      have HS := Lib.hid hs
      clear hs
      go_wp2_with fail
      refine (HY.out _ HA1.out.pr).mono ?_
      rintro e w2 ⟨rfl, hg2, hp2⟩
      have HA2 := Lib.hid (HA1.out.turn hg2 hp2)
      clear hg2 hp2
      go_wp2_with fail
      go_ret
      exact HA2.out.okOut (a := []) (rest := C.toks.drop (i1 + 1)) (by show (if _ then _ else _) = _; rw [if_pos HS.out, tl_at]) (RepK.nil _ _) rfl
    | false =>
      have HN := Lib.hid (fun w' (h' : Pr C w' i1 d) => skip_no C w' i1 d h' [41] hs)
      have HS := Lib.hid hs
      clear hs
      go_wp2_with fail
      refine (HN.out _ HA1.out.pr).mono ?_
      rintro e w2 ⟨rfl, hg2⟩
      have HA2 := Lib.hid (HA1.out.call hg2)
      clear hg2
      go_wp2_with fail
      go_loopg [5] (C.toks.length - i1) (fun g v wr => ∃ (i' n : Nat) (acc : List Nd) (cells : List Value), g = C.toks.length - i' ∧ i' < C.toks.length ∧ acc.length < 6 ∧ C.toks.length - i' < n ∧ Hid (At C w wr i' d) ∧ Hid (GrowN wr w.heap.size v acc cells) ∧ Hid (loopP (listStep one) ((C.toks.drop i1).length + 1) [] (C.toks.drop i1) = loopP (listStep one) n acc (C.toks.drop i')))
      case atStart => exact ⟨i1, (C.toks.drop i1).length + 1, [], [], rfl, hi1, by simp, by simp, HA2.out, GrowN.nil _ _, rfl⟩
      case round =>
        obtain ⟨i', n, acc, cells, rfl, hi', hacc, hn, hat, hgr, hL⟩ := hrel
        obtain ⟨m, rfl⟩ : ∃ m, n = m + 1 := ⟨n - 1, by omega⟩
        have h1' := H1.out wr i' hat.out.pr
        have hshr := hsh (C.toks.drop i')
        generalize hR1 : one (C.toks.drop i') = R1 at h1' hshr
        have HC := Lib.hid h1'
        clear h1'
        go_wp2_with fail
        refine HC.out.mono ?_
        cases R1 with
        | err p er =>
          rintro e w3 ⟨hg3, i3, d3, rfl, hdd, hp3⟩
          exact ⟨rfl, (hat.out.turn hg3 hp3).errOut (by show (if _ then _ else _) = _; rw [if_neg (by rw [HS.out]; simp), hL.out, list_err hR1])⟩
        | ok a r =>
          rintro e w3 ⟨hg3, v3, i3, rfl, ⟨ofv, kv, rfl, hof, hkv⟩, hp3, rfl⟩
          have hi3 := hp3.lt
          have hsm : i' < i3 := by have := hshr _ _ (drop_ne hi') rfl; simp at this; omega
          have hown := fun k hk => (hgr.out.lt k hk).2
          obtain ⟨sa, sn, sc, rfl⟩ := hof.isSlice
          obtain ⟨ka, kn, kc, rfl⟩ := hkv.isSlice
          have HOF := Lib.hid (GrowT.fresh hof (hat.out.gr.size) hown)
          have HKV := Lib.hid (GrowN.freshK hkv (hat.out.gr.size) hown)
          have HG3 := Lib.hid (hgr.out.call hg3 hbp)
          have HA3 := Lib.hid (hat.out.turn hg3 hp3)
          have HR1 := Lib.hid hR1
          have hz3 := HA3.out.gr.size
          obtain ⟨i0, hi, hz0, hz1, hz2⟩ := info_parts infoNd
          clear hg3 hp3 hof hkv hshr hown hR1 HC
          unfold ndV
          go_wp2_with (at_builtin; go_must (refine wpList_append_lies _ rfl (.tmp 11) (.tmp 14) 26 rfl w.heap.size 28 i0 _ 8 112 Tryz.underlying26 hi hz0 hz1 hz2 rfl (by decide) _ acc.length cells rfl (HG3.out.call0 (gr_alloc (grownBy_refl _ _) _)).1 ⟨w3.heap.size, 0, none⟩ 1 1 (ndC a (.slice sa sn sc) (.slice ka kn kc)) rfl rfl ?_ ?_ (by omega) ?_ ?_ ?_ (w3.heap.size + 1) ?_ ?_))
          · exact cells_at _ _ _ _
          · intro u hu; simp [ndC] at hu; rcases hu with rfl | rfl | rfl | rfl | rfl | rfl | rfl | rfl <;> rfl
          · unfold maxLen; omega
          · omega
          · simp; omega
          · simp
          intro g cap w4 hown' hgrow hat' hlt'
          have HG4 := Lib.hid (GrowN.push (HG3.out.call0 (gr_alloc (grownBy_refl _ _) _)) (HOF.out.grow (gr_alloc (grownBy_refl _ _) _)) (HKV.out.grow (gr_alloc (grownBy_refl _ _) _)) hown' hgrow hat' (by simp))
          have HA4 := Lib.hid ((HA3.out.alloc _).app hgrow (fun k hk => (HG3.out.lt k hk).1))
          clear hown' hgrow hat' hlt' hi hz0 hz1 hz2
          have hl1 : (acc ++ [a]).length = acc.length + 1 := by simp
          cases hs2 : isP [44] (C.toks.drop i3) with
          | false =>
            have HN2 := Lib.hid (fun w' (h' : Pr C w' i3 d) => is_is false C w' i3 d h' [44] hs2)
            have HE := Lib.hid (show (if isP [41] (C.toks.drop i1) = true then PR.ok [] (C.toks.drop i1).tail else loopP (listStep one) ((C.toks.drop i1).length + 1) [] (C.toks.drop i1)) = _ by rw [if_neg (by rw [HS.out]; simp), hL.out, list_end HR1.out hs2])
            clear hs2
            go_wp2_with fail
            refine (HN2.out _ HA4.out.pr).mono ?_
            rintro e w5 ⟨rfl, hg5⟩
            have HA5 := Lib.hid (HA4.out.call hg5)
            have HG5 := Lib.hid (HG4.out.call0 hg5)
            clear hg5
            go_wp2_with fail
            refine (want_any C _ i3 d HA5.out.pr [41] (by simp)).mono ?_
            generalize wantP [41] (C.toks.drop i3) = R2 at HE
            cases R2 with
            | err p er =>
              rintro e w6 ⟨hg6, i6, d6, rfl, hdd, hp6⟩
              exact ⟨rfl, (HA5.out.turn hg6 hp6).errOut HE.out⟩
            | ok u r6 =>
              rintro e w6 ⟨hg6, v6, i6, rfl, hv6, hp6, hd6⟩
              have HA6 := Lib.hid (HA5.out.turn hg6 hp6)
              have HG6 := Lib.hid (HG5.out.call hg6 hbp)
              have hv6' : v6 = .tuple #[] := hv6
              subst hv6'
              have HD6 := Lib.hid hd6
              clear hg6 hp6 hv6 hd6
              go_wp2_with fail
              go_ret
              exact HA6.out.okOut HE.out HG6.out.done HD6.out
          | true =>
            have HY2 := Lib.hid (fun w' (h' : Pr C w' i3 d) => is_is true C w' i3 d h' [44] hs2)
            have HS2 := Lib.hid hs2
            clear hs2
            go_wp2_with fail
            refine (HY2.out _ HA4.out.pr).mono ?_
            rintro e w5 ⟨rfl, hg5⟩
            have HA5 := Lib.hid (HA4.out.call hg5)
            have HG5 := Lib.hid (HG4.out.call0 hg5)
            clear hg5
            by_cases h6 : acc.length = 5
            · have l6 : ((acc.length : Int) + 1 == 6) = true := by simp; omega
              have HE := Lib.hid (show (if isP [41] (C.toks.drop i1) = true then PR.ok [] (C.toks.drop i1).tail else loopP (listStep one) ((C.toks.drop i1).length + 1) [] (C.toks.drop i1)) = _ by rw [if_neg (by rw [HS.out]; simp), hL.out, list_six HR1.out HS2.out (by omega)])
              clear h6
              go_wp2_with fail
              refine (fail_any 5 C _ i3 d HA5.out.pr).mono ?_
              rintro e w6 ⟨rfl, hg6⟩
              exact ⟨rfl, (HA5.out.call hg6).errOut HE.out⟩
            · have l6 : ((acc.length : Int) + 1 == 6) = false := by simp; omega
              have HE := Lib.hid (hL.out.trans (list_more HR1.out HS2.out (by omega)))
              have hwt : wantP [44] (C.toks.drop i3) = .ok () (C.toks.drop (i3 + 1)) := by unfold wantP; rw [if_pos HS2.out, tl_at]
              have HW2 := Lib.hid (want_any C _ i3 d HA5.out.pr [44] (by simp))
              rw [hwt] at HW2
              have hl2 := next_lt HA5.out.pr (by simp) HS2.out
              clear hwt
              go_wp2_with fail
              refine HW2.out.mono ?_
              rintro e w6 ⟨hg6, v6, i6, rfl, hv6, hp6, hd6⟩
              have HA6 := Lib.hid (HA5.out.turn hg6 hp6)
              have HG6 := Lib.hid (HG5.out.call hg6 hbp)
              have hv6' : v6 = .tuple #[] := hv6
              subst hv6'
              have hi6 := hp6.lt
              have hi7 : i6 = i3 + 1 := by
                have e := congrArg List.length hd6
                simp at e; omega
              subst hi7
              clear hg6 hp6 hv6 hd6 HW2
              go_wp2_with fail
              go_roundg (C.toks.length - (i3 + 1))
              case measure => omega
              case rel => exact ⟨i3 + 1, m, acc ++ [a], _, rfl, hi6, by simp; omega, by omega, HA6.out, HG6.out, by rw [← tl_at]; exact HE.out⟩
end Go.Proofs.YtkbplcfehllbjaaGreatDoor
/- Plain: each part of the parser takes tokens away. -/
namespace Go.Proofs.YtkbplcfehllbjaaGreatDoor
def Shr {α : Type} (p : List T4 → PR α) : Prop := ∀ ts a r, p ts = .ok a r → r.length ≤ ts.length ∧ (ts ≠ [] → r.length < ts.length)
def ShrLe {α : Type} (p : List T4 → PR α) : Prop := ∀ ts a r, p ts = .ok a r → r.length ≤ ts.length
theorem Shr.le {α : Type} {p : List T4 → PR α} (h : Shr p) : ShrLe p := fun ts a r e => (h ts a r e).1
theorem tail_lt {ts : List T4} (h : ts ≠ []) : ts.tail.length < ts.length := by
  have := List.length_pos_iff.2 h; simp; omega
theorem tail_le (ts : List T4) : ts.tail.length ≤ ts.length := by simp
theorem Shr.want (s : List UInt8) : Shr (wantP s) := fun ts a r e => by
  unfold wantP at e; split at e
  · cases e; exact ⟨tail_le _, tail_lt⟩
  · cases e
theorem Shr.kind (k : Int) : Shr (kindP k) := fun ts a r e => by
  unfold kindP at e; split at e
  · cases e; exact ⟨tail_le _, tail_lt⟩
  · cases e
theorem Shr.bind {α β : Type} {p : List T4 → PR α} {q : α → List T4 → PR β} (h : Shr p) (k : ∀ a, ShrLe (q a)) : Shr (fun ts => (p ts).bind q) := fun ts b r e => by
  cases hp : p ts with
  | err x y => simp [hp] at e
  | ok a r1 =>
    simp [hp] at e
    have h1 := h ts a r1 hp
    have h2 := k a r1 b r e
    exact ⟨by omega, fun hne => by have := h1.2 hne; omega⟩
theorem ShrLe.bind {α β : Type} {p : List T4 → PR α} {q : α → List T4 → PR β} (h : ShrLe p) (k : ∀ a, ShrLe (q a)) : ShrLe (fun ts => (p ts).bind q) := fun ts b r e => by
  cases hp : p ts with
  | err x y => simp [hp] at e
  | ok a r1 =>
    simp [hp] at e
    have h1 := h ts a r1 hp
    have h2 := k a r1 b r e
    omega
theorem Shr.ite {α : Type} {c : List T4 → Prop} [∀ ts, Decidable (c ts)] {p q : List T4 → PR α} (h1 : Shr p) (h2 : Shr q) : Shr (fun ts => if c ts then p ts else q ts) := fun ts a r e => by
  dsimp only at e
  split at e
  · exact h1 ts a r e
  · exact h2 ts a r e
theorem ShrLe.ite {α : Type} {c : List T4 → Prop} [∀ ts, Decidable (c ts)] {p q : List T4 → PR α} (h1 : ShrLe p) (h2 : ShrLe q) : ShrLe (fun ts => if c ts then p ts else q ts) := fun ts a r e => by
  dsimp only at e
  split at e
  · exact h1 ts a r e
  · exact h2 ts a r e
theorem Shr.tail {α : Type} {p : List T4 → PR α} (h : ShrLe p) : Shr (fun ts => p ts.tail) := fun ts a r e => by
  have h1 := h ts.tail a r e
  have h2 := tail_le ts
  exact ⟨by omega, fun hne => by have := tail_lt hne; omega⟩
theorem Shr.pureT {α : Type} (f : List T4 → α) : Shr (fun ts => .ok (f ts) ts.tail) := fun ts a r e => by cases e; exact ⟨tail_le _, tail_lt⟩
theorem ShrLe.pure {α : Type} (f : List T4 → α) : ShrLe (fun ts => .ok (f ts) ts) := fun ts a r e => by cases e; exact Nat.le_refl _
theorem Shr.fail {α : Type} (x : Int) : Shr (fun ts => (failP ts x : PR α)) := fun ts a r e => by cases e
theorem ShrLe.loop {α β : Type} {step : α → List T4 → PR (α ⊕ β)} (h : ∀ a, ShrLe (step a)) : ∀ (n : Nat) (a : α) (ts : List T4) (b : β) (r : List T4), loopP step n a ts = .ok b r → r.length ≤ ts.length := by
  intro n
  induction n with
  | zero => intro a ts b r e; cases e
  | succ n ih =>
    intro a ts b r e
    unfold loopP at e
    cases hs : step a ts with
    | err p q => simp [hs] at e
    | ok c r1 =>
      have h1 := h a ts c r1 hs
      cases c with
      | inl a' => simp [hs] at e; have := ih a' r1 b r e; omega
      | inr b' => simp [hs] at e; obtain ⟨rfl, rfl⟩ := e; exact h1
theorem ShrLe.loopN {α β : Type} {step : α → List T4 → PR (α ⊕ β)} (h : ∀ a, ShrLe (step a)) (a : α) : ShrLe (fun ts => loopP step (ts.length + 1) a ts) := fun ts b r e => ShrLe.loop h _ a ts b r e
theorem Shr.name : Shr nameP := by unfold nameP; exact Shr.bind (Shr.kind 1) fun _ => ShrLe.pure _
theorem Shr.base : Shr baseP := fun ts a r e => by
  unfold baseP at e
  cases hk : typeKind (hdT ts).text with
  | none => rw [hk] at e; cases e
  | some k =>
    rw [hk] at e
    dsimp only at e
    split at e
    · exact Shr.tail (p := fun ts => (nameP ts).bind fun nm r => .ok (Ty.mk k 0 nm []) r) (ShrLe.bind Shr.name.le fun _ => ShrLe.pure _) ts a r e
    · cases e; exact ⟨tail_le _, tail_lt⟩
theorem stars_le (ts : List T4) : ∀ t, (starsP ts t).2.length ≤ ts.length := by
  induction ts with
  | nil => intro t; simp [starsP]
  | cons a r ih =>
    intro t; unfold starsP
    split
    · have := ih t.ptr; simp; omega
    · simp
theorem sizes_le : ∀ (n : Nat) (ts : List T4), ts.length ≤ n → ∀ l r, sizesP ts = .ok l r → r.length ≤ ts.length := by
  intro n
  induction n with
  | zero => intro ts h l r e; have := List.eq_nil_of_length_eq_zero (by omega : ts.length = 0); subst this; cases e; simp
  | succ n ih =>
    intro ts h l r e
    match ts, h, e with
    | [], _, e => cases e; simp
    | [a], _, e => cases e; simp
    | a :: b :: r0, h, e =>
      unfold sizesP at e
      split at e
      · split at e
        · cases e
        · split at e
          · match r0, h, e with
            | [], _, e => cases e
            | c :: r', h, e =>
              dsimp only at e
              split at e
              · cases hs : sizesP r' with
                | err x y => simp [hs] at e
                | ok l' r'' =>
                  simp [hs] at e
                  have := ih r' (by simp at h; omega) l' r'' hs
                  obtain ⟨_, rfl⟩ := e
                  simp; omega
              · cases e
          · cases e
      · cases e; simp
theorem ShrLe.sizes : ShrLe sizesP := fun ts l r e => sizes_le _ ts (Nat.le_refl _) l r e
structure RecShr (R : Rec) : Prop where
  ex : Shr R.expr
  un : Shr R.unary
  st : Shr R.stmt
  ty : Shr R.typename
theorem ShrLe.listStep {α : Type} {one : List T4 → PR α} (h : ShrLe one) (l : List α) : ShrLe (listStep one l) := by
  unfold Go.Proofs.YtkbplcfehllbjaaGreatDoor.listStep
  refine ShrLe.bind h fun a => ShrLe.ite (ShrLe.ite (Shr.fail 5).le (Shr.pureT _).le) ?_
  exact ShrLe.bind (Shr.want _).le fun _ => ShrLe.pure _
theorem Shr.list {α : Type} {one : List T4 → PR α} (h : ShrLe one) : Shr (listP one) := by
  unfold listP
  exact Shr.bind (Shr.want _) fun _ => ShrLe.ite (Shr.pureT _).le (ShrLe.loopN (ShrLe.listStep h) [])
theorem Shr.pointerTo {R : Rec} (h : RecShr R) (t : Ty) : Shr (pointerToP R t) := by
  unfold pointerToP
  exact Shr.bind (Shr.list h.ty.le) fun _ => ShrLe.pure _
theorem Shr.typename {R : Rec} (h : RecShr R) : Shr (typenameF R) := by
  unfold typenameF
  refine Shr.bind Shr.base fun t => ?_
  intro ts a r e
  have hl := stars_le ts t
  dsimp only at e
  split at e
  · have := (Shr.tail (p := fun ts => (wantP [42] ts).bind fun _ r1 => (wantP [41] r1).bind fun _ r2 => pointerToP R (starsP ts t).1 r2) (fun ts' a' r' e' => by
      refine ShrLe.bind (q := fun _ r1 => (wantP [41] r1).bind fun _ r2 => pointerToP R (starsP ts' t).1 r2) (Shr.want _).le (fun _ => ShrLe.bind (Shr.want _).le fun _ => (Shr.pointerTo h _).le) ts' a' r' e'))
    have h2 : ShrLe (fun us => (wantP [42] us.tail).bind fun _ r1 => (wantP [41] r1).bind fun _ r2 => pointerToP R (starsP ts t).1 r2) :=
      (Shr.tail (p := fun us => (wantP [42] us).bind fun _ r1 => (wantP [41] r1).bind fun _ r2 => pointerToP R (starsP ts t).1 r2) (ShrLe.bind (Shr.want _).le fun _ => ShrLe.bind (Shr.want _).le fun _ => (Shr.pointerTo h _).le)).le
    have := h2 _ a r e
    omega
  · cases e; exact hl
theorem Shr.declared {R : Rec} (h : RecShr R) (k : Int) (t : Ty) : Shr (declaredP R k t) := by
  unfold declaredP
  refine Shr.ite (Shr.tail (p := fun ts => (wantP [42] ts).bind fun _ r1 => (nameP r1).bind fun nm r2 => (sizesP r2).bind fun sz r3 => (wantP [41] r3).bind fun _ r4 => (pointerToP R t r4).bind fun u r5 => .ok (Nd.mk k nm 0 (arraysT sz u) []) r5) ?_) ?_
  · exact ShrLe.bind (Shr.want _).le fun _ => ShrLe.bind Shr.name.le fun _ => ShrLe.bind ShrLe.sizes fun _ => ShrLe.bind (Shr.want _).le fun _ => ShrLe.bind (Shr.pointerTo h t).le fun _ => ShrLe.pure _
  · exact Shr.bind Shr.name fun _ => ShrLe.bind ShrLe.sizes fun _ => ShrLe.pure _
theorem Shr.decl {R : Rec} (h : RecShr R) : Shr (declP R) := by
  unfold declP
  refine Shr.bind Shr.base fun t => ?_
  intro ts a r e
  have hl := stars_le ts t
  have := (Shr.declared h 13 _).le _ a r e
  omega
theorem Shr.enclosed {R : Rec} (h : RecShr R) : Shr (enclosedP R) := by
  unfold enclosedP
  exact Shr.bind (Shr.want _) fun _ => ShrLe.bind h.ty.le fun _ => ShrLe.bind (Shr.want _).le fun _ => ShrLe.pure _
theorem Shr.condition {R : Rec} (h : RecShr R) : Shr (conditionP R) := by
  unfold conditionP
  exact Shr.bind (Shr.want _) fun _ => ShrLe.bind h.ex.le fun _ => ShrLe.bind (Shr.want _).le fun _ => ShrLe.pure _
theorem Shr.term {R : Rec} (h : RecShr R) : Shr (termP R) := by
  unfold termP
  exact Shr.ite (Shr.pureT _) (Shr.ite (Shr.pureT _) (Shr.bind (Shr.want _) fun _ => ShrLe.bind h.ex.le fun _ => ShrLe.bind (Shr.want _).le fun _ => ShrLe.pure _))
theorem ShrLe.postStep {R : Rec} (h : RecShr R) (n : Nd) : ShrLe (postStep R n) := by
  unfold Go.Proofs.YtkbplcfehllbjaaGreatDoor.postStep
  refine ShrLe.ite (Shr.tail (p := fun ts => (R.expr ts).bind fun m r1 => (wantP [93] r1).bind fun _ r2 => .ok (Sum.inl (Nd.of 6 [n, m])) r2) ?_).le (ShrLe.ite (Shr.tail (p := fun ts => (nameP ts).bind fun nm r => .ok (Sum.inl (Nd.mk 7 nm 0 Ty.none [n])) r) ?_).le (ShrLe.ite (Shr.tail (p := fun ts => (nameP ts).bind fun nm r => .ok (Sum.inl (Nd.mk 8 nm 0 Ty.none [n])) r) ?_).le (ShrLe.ite ?_ (ShrLe.pure _))))
  · exact ShrLe.bind h.ex.le fun _ => ShrLe.bind (Shr.want _).le fun _ => ShrLe.pure _
  · exact ShrLe.bind Shr.name.le fun _ => ShrLe.pure _
  · exact ShrLe.bind Shr.name.le fun _ => ShrLe.pure _
  · exact ShrLe.bind (Shr.list h.ex.le).le fun _ => ShrLe.pure _
theorem Shr.post {R : Rec} (h : RecShr R) : Shr (postP R) := by
  unfold postP
  exact Shr.bind (Shr.term h) fun n => ShrLe.loopN (ShrLe.postStep h) n
theorem Shr.unary {R : Rec} (h : RecShr R) : Shr (unaryF R) := by
  intro ts a r e
  unfold unaryF at e
  split at e
  · exact Shr.tail (p := fun us => (R.unary us).bind fun n r => .ok (Nd.mk 3 (hdT ts).text 0 Ty.none [n]) r) (ShrLe.bind h.un.le fun _ => ShrLe.pure _) ts a r e
  · split at e
    · exact Shr.tail (p := fun us => (enclosedP R us).bind fun t r => .ok (Nd.mk 11 [] 0 t []) r) (ShrLe.bind (Shr.enclosed h).le fun _ => ShrLe.pure _) ts a r e
    · split at e
      · exact Shr.bind (q := fun t r1 => (R.unary r1).bind fun n r2 => .ok (Nd.mk 10 [] 0 t [n]) r2) (Shr.enclosed h) (fun _ => ShrLe.bind h.un.le fun _ => ShrLe.pure _) ts a r e
      · exact Shr.post h ts a r e
theorem ShrLe.binStep {bin : Nat → List T4 → PR Nd} (h : ∀ k, ShrLe (bin k)) (least : Nat) (n : Nd) : ShrLe (binStep bin least n) := by
  intro ts a r e
  unfold Go.Proofs.YtkbplcfehllbjaaGreatDoor.binStep at e
  split at e
  · cases e; exact Nat.le_refl _
  · exact (Shr.tail (p := fun us => (bin (rowOf (hdT ts).text + 1) us).bind fun m r => .ok (Sum.inl (Nd.mk 4 (hdT ts).text 0 Ty.none [n, m])) r) (ShrLe.bind (h _) fun _ => ShrLe.pure _)).le ts a r e
theorem Shr.bin {R : Rec} (h : RecShr R) : ∀ (f least : Nat), Shr (binP R f least) := by
  intro f
  induction f with
  | zero => intro least ts a r e; cases e
  | succ f ih =>
    intro least
    show Shr (fun ts => (R.unary ts).bind fun n r => loopP (binStep (binP R f) least) (r.length + 1) n r)
    exact Shr.bind h.un fun n => ShrLe.loopN (ShrLe.binStep (fun k => (ih k).le) least) n
theorem Shr.expr {R : Rec} (h : RecShr R) : Shr (exprF R) := by
  unfold exprF
  refine Shr.bind (Shr.bin h 9 1) fun n => ShrLe.ite (Shr.tail (p := fun ts => (R.expr ts).bind fun m r2 => .ok (Nd.of 5 [n, m]) r2) ?_).le (ShrLe.pure _)
  exact ShrLe.bind h.ex.le fun _ => ShrLe.pure _
theorem ShrLe.blockStep {R : Rec} (h : RecShr R) (l : List Nd) : ShrLe (blockStep R l) := by
  unfold Go.Proofs.YtkbplcfehllbjaaGreatDoor.blockStep
  exact ShrLe.ite (Shr.pureT _).le (ShrLe.bind h.st.le fun _ => ShrLe.pure _)
theorem Shr.block {R : Rec} (h : RecShr R) : Shr (blockP R) := by
  unfold blockP
  exact Shr.bind (Shr.want _) fun _ => ShrLe.bind (ShrLe.loopN (ShrLe.blockStep h) []) fun _ => ShrLe.pure _
theorem Shr.choice {R : Rec} (h : RecShr R) : Shr (choiceP R) := by
  unfold choiceP
  refine Shr.bind (Shr.want _) fun _ => ShrLe.bind (Shr.condition h).le fun c => ShrLe.bind h.st.le fun a => ShrLe.ite (Shr.tail (p := fun ts => (R.stmt ts).bind fun b r3 => .ok (Nd.of 14 [c, a, b]) r3) ?_).le (ShrLe.pure _)
  exact ShrLe.bind h.st.le fun _ => ShrLe.pure _
theorem Shr.result {R : Rec} (h : RecShr R) : Shr (resultP R) := by
  unfold resultP
  exact Shr.bind (Shr.want _) fun _ => ShrLe.ite (Shr.pureT _).le (ShrLe.bind h.ex.le fun _ => ShrLe.bind (Shr.want _).le fun _ => ShrLe.pure _)
theorem Shr.leap (k : Int) : Shr (leapP k) := by
  unfold leapP
  exact Shr.tail (p := fun ts => (wantP [59] ts).bind fun _ r => .ok (Nd.of k []) r) (ShrLe.bind (Shr.want _).le fun _ => ShrLe.pure _)
theorem Shr.local' {R : Rec} (h : RecShr R) : Shr (localP R) := by
  unfold localP
  refine Shr.bind (Shr.decl h) fun n => ShrLe.ite (Shr.tail (p := fun ts => (R.expr ts).bind fun m r1 => (wantP [59] r1).bind fun _ r2 => .ok (setKids n [m]) r2) ?_).le (ShrLe.bind (Shr.want _).le fun _ => ShrLe.pure _)
  exact ShrLe.bind h.ex.le fun _ => ShrLe.bind (Shr.want _).le fun _ => ShrLe.pure _
theorem Shr.stmt {R : Rec} (h : RecShr R) : Shr (stmtF R) := by
  unfold stmtF
  refine Shr.ite (Shr.block h) (Shr.ite (Shr.pureT _) (Shr.ite (Shr.choice h) (Shr.ite (Shr.tail (p := fun ts => (conditionP R ts).bind fun c r1 => (R.stmt r1).bind fun a r2 => .ok (Nd.of 15 [c, a]) r2) ?_) (Shr.ite (Shr.result h) (Shr.ite (Shr.leap 18) (Shr.ite (Shr.leap 19) (Shr.ite (Shr.local' h) ?_)))))))
  · exact ShrLe.bind (Shr.condition h).le fun _ => ShrLe.bind h.st.le fun _ => ShrLe.pure _
  · exact Shr.bind h.ex fun _ => ShrLe.bind (Shr.want _).le fun _ => ShrLe.pure _
theorem RecShr.at : ∀ (f : Nat), RecShr (recAt f)
  | 0 => ⟨Shr.fail 4, Shr.fail 4, Shr.fail 4, Shr.fail 4⟩
  | f + 1 => have h := RecShr.at f; ⟨Shr.expr h, Shr.unary h, Shr.stmt h, Shr.typename h⟩
end Go.Proofs.YtkbplcfehllbjaaGreatDoor
/- Levels of nesting; node, enclosedType, condition, term, leap. -/
namespace Go.Proofs.YtkbplcfehllbjaaGreatDoor
open Go.RowKit
theorem Shr.shrinks {α : Type} {p : List T4 → PR α} (h : Shr p) : Shrinks p := fun ts a r hne e => (h ts a r e).2 hne
structure Lev (C : Ctx) (d : Nat) (R : Rec) : Prop where
  ex : RunsN 100 C d R.expr
  un : RunsN 108 C d R.unary
  st : RunsN 89 C d R.stmt
  ty : RunsT 92 C d R.typename
  shr : RecShr R
theorem cells8_of (w : World) (b : Nat) (v0 v1 v2 v3 v4 v5 v6 v7 : Value) (t : TypeId) (h : w.heap[b]? = some (.cells #[v0, v1, v2, v3, v4, v5, v6, v7] t (0, 0))) :
    (w.cell? ⟨b, 0, none⟩ = some v0 ∧ w.cell? ⟨b, 1, none⟩ = some v1 ∧ w.cell? ⟨b, 2, none⟩ = some v2 ∧ w.cell? ⟨b, 3, none⟩ = some v3 ∧ w.cell? ⟨b, 4, none⟩ = some v4 ∧ w.cell? ⟨b, 5, none⟩ = some v5 ∧ w.cell? ⟨b, 6, none⟩ = some v6 ∧ w.cell? ⟨b, 7, none⟩ = some v7) ∧
    (w.frozen? ⟨b, 0, none⟩ = false ∧ w.frozen? ⟨b, 1, none⟩ = false ∧ w.frozen? ⟨b, 2, none⟩ = false ∧ w.frozen? ⟨b, 3, none⟩ = false ∧ w.frozen? ⟨b, 4, none⟩ = false ∧ w.frozen? ⟨b, 5, none⟩ = false ∧ w.frozen? ⟨b, 6, none⟩ = false ∧ w.frozen? ⟨b, 7, none⟩ = false) := by
  have hc := fun j => cell_of_row w b j _ _ _ h
  refine ⟨⟨?_, ?_, ?_, ?_, ?_, ?_, ?_, ?_⟩, ⟨?_, ?_, ?_, ?_, ?_, ?_, ?_, ?_⟩⟩
  · rw [hc]; rfl
  · rw [hc]; rfl
  · rw [hc]; rfl
  · rw [hc]; rfl
  · rw [hc]; rfl
  · rw [hc]; rfl
  · rw [hc]; rfl
  · rw [hc]; rfl
  all_goals simp [World.frozen?, h]
theorem At.set4 {C : Ctx} {w0 w : World} {i d b : Nat} (h : At C w0 w i d) (hb : w0.heap.size ≤ b) (v0 v1 v2 v3 : Value) : At C w0 ((((w.setCell ⟨b, 0, none⟩ v0).setCell ⟨b, 1, none⟩ v1).setCell ⟨b, 2, none⟩ v2).setCell ⟨b, 3, none⟩ v3) i d :=
  At.set (At.set (At.set (At.set h hb _) hb _) hb _) hb _
theorem Kept.set4 {B b : Nat} {X : List Nat} {a w : World} (h : Kept (Sx B X) a w) (hb : b ∈ X) (v0 v1 v2 v3 : Value) : Kept (Sx B X) a ((((w.setCell ⟨b, 0, none⟩ v0).setCell ⟨b, 1, none⟩ v1).setCell ⟨b, 2, none⟩ v2).setCell ⟨b, 3, none⟩ v3) :=
  ((((h).set (p := ⟨b, 0, none⟩) hb v0).set (p := ⟨b, 1, none⟩) hb v1).set (p := ⟨b, 2, none⟩) hb v2).set (p := ⟨b, 3, none⟩) hb v3
theorem blk_set4 {w : World} {b k : Nat} {o : Obj} (h : w.heap[k]? = some o) (hb : k ≠ b) (v0 v1 v2 v3 : Value) : ((((w.setCell ⟨b, 0, none⟩ v0).setCell ⟨b, 1, none⟩ v1).setCell ⟨b, 2, none⟩ v2).setCell ⟨b, 3, none⟩ v3).heap[k]? = some o := by
  exact blk_set (blk_set (blk_set (blk_set (h) (p := ⟨b, 0, none⟩) hb v0) (p := ⟨b, 1, none⟩) hb v1) (p := ⟨b, 2, none⟩) hb v2) (p := ⟨b, 3, none⟩) hb v3
theorem blk_put4 {w : World} {b t : Nat} {u0 u1 u2 u3 : Value} (h : w.heap[b]? = some (.cells #[u0, u1, u2, u3] t (0, 0))) (v0 v1 v2 v3 : Value) : ((((w.setCell ⟨b, 0, none⟩ v0).setCell ⟨b, 1, none⟩ v1).setCell ⟨b, 2, none⟩ v2).setCell ⟨b, 3, none⟩ v3).heap[b]? = some (.cells #[v0, v1, v2, v3] t (0, 0)) := by
  simp [World.setCell, Array.getElem?_modify, h]
theorem At.set8 {C : Ctx} {w0 w : World} {i d b : Nat} (h : At C w0 w i d) (hb : w0.heap.size ≤ b) (v0 v1 v2 v3 v4 v5 v6 v7 : Value) : At C w0 ((((((((w.setCell ⟨b, 0, none⟩ v0).setCell ⟨b, 1, none⟩ v1).setCell ⟨b, 2, none⟩ v2).setCell ⟨b, 3, none⟩ v3).setCell ⟨b, 4, none⟩ v4).setCell ⟨b, 5, none⟩ v5).setCell ⟨b, 6, none⟩ v6).setCell ⟨b, 7, none⟩ v7) i d :=
  At.set (At.set (At.set (At.set (At.set (At.set (At.set (At.set h hb _) hb _) hb _) hb _) hb _) hb _) hb _) hb _
theorem Kept.set8 {B b : Nat} {X : List Nat} {a w : World} (h : Kept (Sx B X) a w) (hb : b ∈ X) (v0 v1 v2 v3 v4 v5 v6 v7 : Value) : Kept (Sx B X) a ((((((((w.setCell ⟨b, 0, none⟩ v0).setCell ⟨b, 1, none⟩ v1).setCell ⟨b, 2, none⟩ v2).setCell ⟨b, 3, none⟩ v3).setCell ⟨b, 4, none⟩ v4).setCell ⟨b, 5, none⟩ v5).setCell ⟨b, 6, none⟩ v6).setCell ⟨b, 7, none⟩ v7) :=
  ((((((((h).set (p := ⟨b, 0, none⟩) hb v0).set (p := ⟨b, 1, none⟩) hb v1).set (p := ⟨b, 2, none⟩) hb v2).set (p := ⟨b, 3, none⟩) hb v3).set (p := ⟨b, 4, none⟩) hb v4).set (p := ⟨b, 5, none⟩) hb v5).set (p := ⟨b, 6, none⟩) hb v6).set (p := ⟨b, 7, none⟩) hb v7
theorem blk_set8 {w : World} {b k : Nat} {o : Obj} (h : w.heap[k]? = some o) (hb : k ≠ b) (v0 v1 v2 v3 v4 v5 v6 v7 : Value) : ((((((((w.setCell ⟨b, 0, none⟩ v0).setCell ⟨b, 1, none⟩ v1).setCell ⟨b, 2, none⟩ v2).setCell ⟨b, 3, none⟩ v3).setCell ⟨b, 4, none⟩ v4).setCell ⟨b, 5, none⟩ v5).setCell ⟨b, 6, none⟩ v6).setCell ⟨b, 7, none⟩ v7).heap[k]? = some o := by
  exact blk_set (blk_set (blk_set (blk_set (blk_set (blk_set (blk_set (blk_set (h) (p := ⟨b, 0, none⟩) hb v0) (p := ⟨b, 1, none⟩) hb v1) (p := ⟨b, 2, none⟩) hb v2) (p := ⟨b, 3, none⟩) hb v3) (p := ⟨b, 4, none⟩) hb v4) (p := ⟨b, 5, none⟩) hb v5) (p := ⟨b, 6, none⟩) hb v6) (p := ⟨b, 7, none⟩) hb v7
theorem blk_put8 {w : World} {b t : Nat} {u0 u1 u2 u3 u4 u5 u6 u7 : Value} (h : w.heap[b]? = some (.cells #[u0, u1, u2, u3, u4, u5, u6, u7] t (0, 0))) (v0 v1 v2 v3 v4 v5 v6 v7 : Value) : ((((((((w.setCell ⟨b, 0, none⟩ v0).setCell ⟨b, 1, none⟩ v1).setCell ⟨b, 2, none⟩ v2).setCell ⟨b, 3, none⟩ v3).setCell ⟨b, 4, none⟩ v4).setCell ⟨b, 5, none⟩ v5).setCell ⟨b, 6, none⟩ v6).setCell ⟨b, 7, none⟩ v7).heap[b]? = some (.cells #[v0, v1, v2, v3, v4, v5, v6, v7] t (0, 0)) := by
  simp [World.setCell, Array.getElem?_modify, h]
set_option maxRecDepth 100000 in
set_option maxHeartbeats 1000000 in
theorem node_any (k : Int) (l : List Nd) (kv : Value) (S : Nat → Prop) (w : World) (h : RepK w S kv l) :
    Calls Tryz.prog 95 #[.int .i64 k, kv] w fun e w' => w.grownBy w' none ∧ e = .returned (ndV (Nd.of k l) (.slice none 0 0) kv) ∧ RepK w' S kv l := by
  obtain ⟨ka, kn, kc, rfl⟩ := h.isSlice
  have HR := Lib.hid h
  clear h
  go_enter Tryz.func95, Tryz.ntmps95
  go_wp2_with fail
  refine bodyPost_ret (v := ndV (Nd.of k l) (.slice none 0 0) (.slice ka kn kc)) (by simp [results, Tryz.results95, go_sem]; rfl) rfl ⟨by repeat (first | with_reducible exact grownBy_refl _ _ | with_reducible assumption | with_reducible refine World.grownBy.gr_drew ?_ | with_reducible refine World.grownBy.gr_set ?_ (by simp) _ | with_reducible refine gr_alloc ?_ _), rfl, ?_⟩
  exact HR.out.grow (by repeat (first | with_reducible exact grownBy_refl _ _ | with_reducible assumption | with_reducible refine World.grownBy.gr_drew ?_ | with_reducible refine World.grownBy.gr_set ?_ (by simp) _ | with_reducible refine gr_alloc ?_ _))
set_option maxRecDepth 100000 in
set_option maxHeartbeats 2000000 in
theorem enclosed_any (C : Ctx) (d : Nat) (R : Rec) (L : Lev C d R) : RunsT 115 C d (enclosedP R) := by
  intro w i h
  have HP := Lib.hid h.at
  have hbp := lt_of_heap h.blk
  have HL := Lib.hid L.ty
  clear L
  have HW := Lib.hid (fun w' (h' : Pr C w' i d) => want_any C w' i d h' [40] (by simp))
  unfold enclosedP
  generalize wantP [40] (C.toks.drop i) = R0 at HW ⊢
  clear h
  go_enter Tryz.func115, Tryz.ntmps115
  go_wp2_with fail
  have B0 := Lib.hid (blk_new w (.cells #[.int .i64 0, .int .i64 0, .string ⟨#[]⟩, .slice none 0 0] 25))
  refine (HW.out _ (HP.out.alloc _).pr).mono ?_
  have HA0 := Lib.hid (HP.out.alloc (.cells #[.int .i64 0, .int .i64 0, .string ⟨#[]⟩, .slice none 0 0] 25))
  cases R0 with
  | err p er =>
    rintro e w1 ⟨hg, i1, d1, rfl, hdd, hp⟩
    exact ⟨rfl, (HA0.out.turn hg hp).errOut rfl⟩
  | ok u r =>
    rintro e w1 ⟨hg, v1, i1, rfl, hv, hp, hd⟩
    have hv' : v1 = .tuple #[] := hv
    subst hv'
    subst hd
    have HA1 := Lib.hid (HA0.out.turn hg hp)
    have B1 := Lib.hid (blk_call B0.out hg (by simp; omega))
    have hz1 := hg.size
    simp at hz1
    clear hg hp hv HW B0
    go_wp2_with fail
    have HC := Lib.hid (HL.out w1 i1 HA1.out.pr)
    generalize hR1 : R.typename (C.toks.drop i1) = R1 at HC
    refine HC.out.mono ?_
    cases R1 with
    | err p er =>
      rintro e w2 ⟨hg, i2, d2, rfl, hdd, hp⟩
      exact ⟨rfl, (HA1.out.turn hg hp).errOut (by rw [PR.bind_ok, hR1]; rfl)⟩
    | ok a r =>
      rintro e w2 ⟨hg, v2, i2, rfl, ⟨ofv, rfl, hof⟩, hp, hd⟩
      obtain ⟨sa, sn, sc, rfl⟩ := hof.isSlice
      have HA2 := Lib.hid (HA1.out.turn hg hp)
      have B2 := Lib.hid (blk_call B1.out hg (by simp; omega))
      have HO2 := Lib.hid (hof.into (B := w.heap.size) (X := [w.heap.size]) (by omega) (by simp; omega))
      have hz2 := hg.size
      clear hg hp hof
      unfold tyV
      go_wp2_with fail
      have HA3 := Lib.hid (HA2.out.alloc (.cells #[.int .i64 a.kind, .int .i64 a.num, .string ⟨a.name.toArray⟩, .slice sa sn sc] 25))
      have B3 := Lib.hid (blk_alloc B2.out (.cells #[.int .i64 a.kind, .int .i64 a.num, .string ⟨a.name.toArray⟩, .slice sa sn sc] 25))
      have N3 := Lib.hid (blk_new w2 (.cells #[.int .i64 a.kind, .int .i64 a.num, .string ⟨a.name.toArray⟩, .slice sa sn sc] 25))
      refine (want_any C _ i2 d HA3.out.pr [41] (by simp)).mono ?_
      generalize hR3 : wantP [41] (C.toks.drop i2) = R3
      cases R3 with
      | err p er =>
        rintro e w4 ⟨hg, i4, d4, rfl, hdd, hp⟩
        exact ⟨rfl, (HA3.out.turn hg hp).errOut (by rw [PR.bind_ok, hR1, PR.bind_ok, ← hd, hR3]; rfl)⟩
      | ok u r =>
        rintro e w4 ⟨hg, v4, i4, rfl, hv, hp, hd4⟩
        have hv' : v4 = .tuple #[] := hv
        subst hv'
        have HA4 := Lib.hid (HA3.out.turn hg hp)
        obtain ⟨s0, s1, s2, s3, e0, e1, e2, e3⟩ := cells4_of w4 w.heap.size _ _ _ _ _ (blk_call B3.out hg (by simp; omega))
        obtain ⟨t0, t1, t2, t3, _, _, _, _⟩ := cells4_of w4 w2.heap.size _ _ _ _ _ (blk_call N3.out hg (by simp; omega))
        have HO4 := Lib.hid ((HO2.out.kept ((Kept.refl _ _).alloc _)).kept ((Kept.refl _ _).call hg hbp))
        have HE := Lib.hid (show (PR.ok u (C.toks.drop i1)).bind (fun _ r1 => (R.typename r1).bind fun t r2 => (wantP [41] r2).bind fun _ r3 => PR.ok t r3) = .ok a r by rw [PR.bind_ok, hR1, PR.bind_ok, ← hd, hR3]; rfl)
        have HD := Lib.hid hd4
        have hz4 := hg.size
        simp at hz4
        have z1 : w.heap.size < w4.heap.size := by omega
        have z2 : w2.heap.size < w4.heap.size := by omega
        clear hg hp hv hd hd4 hR1 hR3
        go_wp2_with fail
        refine bodyPost_ret (v := tyV a (.slice sa sn sc)) (by simp [results, Tryz.results115, go_sem, s0, s1, s2, s3]; rfl) rfl ?_
        refine At.okOut ?_ HE.out ⟨_, rfl, (HO4.out.kept ((((Kept.refl _ _).set ?_ _).set ?_ _).set ?_ _ |>.set ?_ _)).out (Nat.le_refl _)⟩ HD.out
        · exact At.set (At.set (At.set (At.set HA4.out (Nat.le_refl _) _) (Nat.le_refl _) _) (Nat.le_refl _) _) (Nat.le_refl _) _
        all_goals simp
end Go.Proofs.YtkbplcfehllbjaaGreatDoor
/- condition, term, leap, result. -/
namespace Go.Proofs.YtkbplcfehllbjaaGreatDoor
open Go.RowKit
set_option maxRecDepth 100000 in
set_option maxHeartbeats 2000000 in
theorem condition_any (C : Ctx) (d : Nat) (R : Rec) (L : Lev C d R) : RunsN 96 C d (conditionP R) := by
  intro w i h
  have HP := Lib.hid h.at
  have hbp := lt_of_heap h.blk
  have HL := Lib.hid L.ex
  clear L
  have HW := Lib.hid (fun w' (h' : Pr C w' i d) => want_any C w' i d h' [40] (by simp))
  unfold conditionP
  generalize wantP [40] (C.toks.drop i) = R0 at HW ⊢
  clear h
  go_enter Tryz.func96, Tryz.ntmps96
  go_wp2_with fail
  have B0 := Lib.hid (blk_new w (.cells #[.int .i64 0, .string ⟨#[]⟩, .int .i64 0, .int .i64 0, .int .i64 0, .string ⟨#[]⟩, .slice none 0 0, .slice none 0 0] 28))
  refine (HW.out _ (HP.out.alloc _).pr).mono ?_
  have HA0 := Lib.hid (HP.out.alloc (.cells #[.int .i64 0, .string ⟨#[]⟩, .int .i64 0, .int .i64 0, .int .i64 0, .string ⟨#[]⟩, .slice none 0 0, .slice none 0 0] 28))
  cases R0 with
  | err p er =>
    rintro e w1 ⟨hg, i1, d1, rfl, hdd, hp⟩
    exact ⟨rfl, (HA0.out.turn hg hp).errOut rfl⟩
  | ok u r =>
    rintro e w1 ⟨hg, v1, i1, rfl, hv, hp, hd⟩
    have hv' : v1 = .tuple #[] := hv
    subst hv'
    subst hd
    have HA1 := Lib.hid (HA0.out.turn hg hp)
    have B1 := Lib.hid (blk_call B0.out hg (by simp; omega))
    have hz1 := hg.size
    simp at hz1
    clear hg hp hv HW B0
    go_wp2_with fail
    have HC := Lib.hid (HL.out w1 i1 HA1.out.pr)
    generalize hR1 : R.expr (C.toks.drop i1) = R1 at HC
    refine HC.out.mono ?_
    cases R1 with
    | err p er =>
      rintro e w2 ⟨hg, i2, d2, rfl, hdd, hp⟩
      exact ⟨rfl, (HA1.out.turn hg hp).errOut (by rw [PR.bind_ok, hR1]; rfl)⟩
    | ok a r =>
      rintro e w2 ⟨hg, v2, i2, rfl, ⟨ofv, kv, rfl, hof, hkv⟩, hp, hd⟩
      obtain ⟨sa, sn, sc, rfl⟩ := hof.isSlice
      obtain ⟨ka, kn, kc, rfl⟩ := hkv.isSlice
      have HA2 := Lib.hid (HA1.out.turn hg hp)
      have B2 := Lib.hid (blk_call B1.out hg (by simp; omega))
      have HO2 := Lib.hid (hof.into (B := w.heap.size) (X := [w.heap.size]) (by omega) (by simp; omega))
      have HK2 := Lib.hid (hkv.into (B := w.heap.size) (X := [w.heap.size]) (by omega) (by simp; omega))
      have hz2 := hg.size
      clear hg hp hof hkv
      unfold ndV
      go_wp2_with fail
      have HA3 := Lib.hid (HA2.out.alloc (.cells #[.int .i64 a.kind, .string ⟨a.text.toArray⟩, .int .i64 a.num, .int .i64 a.typ.kind, .int .i64 a.typ.num, .string ⟨a.typ.name.toArray⟩, .slice sa sn sc, .slice ka kn kc] 28))
      have B3 := Lib.hid (blk_alloc B2.out (.cells #[.int .i64 a.kind, .string ⟨a.text.toArray⟩, .int .i64 a.num, .int .i64 a.typ.kind, .int .i64 a.typ.num, .string ⟨a.typ.name.toArray⟩, .slice sa sn sc, .slice ka kn kc] 28))
      have N3 := Lib.hid (blk_new w2 (.cells #[.int .i64 a.kind, .string ⟨a.text.toArray⟩, .int .i64 a.num, .int .i64 a.typ.kind, .int .i64 a.typ.num, .string ⟨a.typ.name.toArray⟩, .slice sa sn sc, .slice ka kn kc] 28))
      refine (want_any C _ i2 d HA3.out.pr [41] (by simp)).mono ?_
      generalize hR3 : wantP [41] (C.toks.drop i2) = R3
      cases R3 with
      | err p er =>
        rintro e w4 ⟨hg, i4, d4, rfl, hdd, hp⟩
        exact ⟨rfl, (HA3.out.turn hg hp).errOut (by rw [PR.bind_ok, hR1, PR.bind_ok, ← hd, hR3]; rfl)⟩
      | ok u r =>
        rintro e w4 ⟨hg, v4, i4, rfl, hv, hp, hd4⟩
        have hv' : v4 = .tuple #[] := hv
        subst hv'
        have HA4 := Lib.hid (HA3.out.turn hg hp)
        obtain ⟨⟨s0, s1, s2, s3, s4, s5, s6, s7⟩, e0, e1, e2, e3, e4, e5, e6, e7⟩ := cells8_of w4 w.heap.size _ _ _ _ _ _ _ _ _ (blk_call B3.out hg (by simp; omega))
        obtain ⟨⟨t0, t1, t2, t3, t4, t5, t6, t7⟩, _⟩ := cells8_of w4 w2.heap.size _ _ _ _ _ _ _ _ _ (blk_call N3.out hg (by simp; omega))
        have HK4 := Lib.hid ((HK2.out.kept ((Kept.refl _ _).alloc _)).kept ((Kept.refl _ _).call hg hbp))
        have HO4 := Lib.hid ((HO2.out.kept ((Kept.refl _ _).alloc _)).kept ((Kept.refl _ _).call hg hbp))
        have HE := Lib.hid (show (PR.ok u (C.toks.drop i1)).bind (fun _ r1 => (R.expr r1).bind fun t r2 => (wantP [41] r2).bind fun _ r3 => PR.ok t r3) = .ok a r by rw [PR.bind_ok, hR1, PR.bind_ok, ← hd, hR3]; rfl)
        have HD := Lib.hid hd4
        have hz4 := hg.size
        simp at hz4
        have z1 : w.heap.size < w4.heap.size := by omega
        have z2 : w2.heap.size < w4.heap.size := by omega
        clear hg hp hv hd hd4 hR1 hR3
        go_wp2_with fail
        refine bodyPost_ret (v := ndV a (.slice sa sn sc) (.slice ka kn kc)) (by simp [results, Tryz.results96, go_sem, s0, s1, s2, s3, s4, s5, s6, s7]; rfl) rfl ?_
        exact (HA4.out.set8 (Nat.le_refl _) _ _ _ _ _ _ _ _).okOut HE.out ⟨_, _, rfl, (HO4.out.kept ((Kept.refl _ _).set8 (by simp) _ _ _ _ _ _ _ _)).out (Nat.le_refl _), (HK4.out.kept ((Kept.refl _ _).set8 (by simp) _ _ _ _ _ _ _ _)).out (Nat.le_refl _)⟩ HD.out
end Go.Proofs.YtkbplcfehllbjaaGreatDoor
