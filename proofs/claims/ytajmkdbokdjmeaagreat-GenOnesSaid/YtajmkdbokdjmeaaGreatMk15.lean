/- Merged: O18, O19. -/
import Derived.Test.YtajmkdbokdjmeaaGreatMk14
/- An evaluator: a region that draws its order: one operation more. Kit only. -/
namespace Go.Proofs.YtajmkdbokdjmeaaGreat
open Go.RowKit
section
variable {c : Ctx} {cl : Ctx → Nat → List AV → Mem → RV} {nt : Nat} {ops : Array Oper} {dsts : List (Option Nat)} {tm : Tr AV} {ms : Tr Nat} {st : List (Nat × Nat)} {g : Nat → Row} {N : Nat → Mem} {s : Nat}
theorem Inv.next {D : List Deferred} {ρ ρ' ρ2 : Env} {W0 W W2 : World} {listed : Array Bool} {a : Act} (I : Inv c nt D ops dsts tm st g N s ρ W0 listed ρ' a W) (T : Told c cl nt ops dsts tm ms st g N s) {j : Nat} (hj : j < s)
    (hc : ∀ k, Reach ops j k → listed[k]? = some true) {o : Oper} (ho : ops[j]? = some o) {V : Value} (hv : Rep ρ2 (g j).v V)
    (hle : ρ'.le ρ2) (hnew : ∀ b, b < (g j).lo ∨ (g j).hi ≤ b → ρ2 b = ρ' b) (hos : W2.os = W.os) (htp : W2.tape = W.tape) (hout : W2.output = W.output) (hsz : W.heap.size ≤ W2.heap.size)
    (hlive : ∀ b t e sz, LiveD c st g N s (listed.setIfInBounds j true) b t e sz → ∃ q k, ρ2 b = some (q, k) ∧ RowRep ρ2 W2 q k t e sz ∧ ((W.heap.size ≤ q ∧ (g j).lo ≤ b ∧ b < (g j).hi) ∨ (ρ' b = some (q, k) ∧ ∃ t0 e0 sz0, LiveD c st g N s listed b t0 e0 sz0)))
    (hin : ∀ b t e sz b' t' e' sz' q k k', (g j).lo ≤ b → b < (g j).hi → (g j).lo ≤ b' → b' < (g j).hi → LiveD c st g N s (listed.setIfInBounds j true) b t e sz → LiveD c st g N s (listed.setIfInBounds j true) b' t' e' sz' → ρ2 b = some (q, k) → ρ2 b' = some (q, k') → b = b')
    (hstay : ∀ q, q < W.heap.size → W2.heap[q]? = W.heap[q]? ∨ ∃ b k t e sz, c.bar ≤ b ∧ Live c (N 0) b t e sz ∧ ρ b = some (q, k)) :
    Inv c nt D ops dsts tm st g N s ρ W0 (listed.setIfInBounds j true) ρ2 (a.put o.dst V) W2 := by
  have hjl : j < listed.size := by rw [I.size]; have := T.sle; omega
  have hget : ∀ k, (listed.setIfInBounds j true)[k]? = if k = j then some true else listed[k]? := fun k => set_get hjl
  obtain ⟨h1, h2, h3⟩ := I.tmps T hj ho hv hle
  have hlo := T.lo hj
  have hhi := T.hi hj
  have hN0 := T.cnt (j := 0) (k := j) (by omega) (by omega)
  have hNs := T.cnt (j := j + 1) (k := s) (by omega) (Nat.le_refl _)
  have lt : ∀ b t e sz q k, LiveD c st g N s listed b t e sz → ρ' b = some (q, k) → q < W.heap.size := by
    intro b t e sz q k h h1
    obtain ⟨q', k', h2, h3⟩ := I.row _ _ _ _ h
    rw [h1] at h2
    injection h2 with h2
    injection h2 with h2 _
    subst h2
    exact h3.lt
  have two : ∀ {b : Nat} {q q' k k' : Nat}, ρ2 b = some (q, k) → ρ2 b = some (q', k') → q = q' ∧ k = k' := fun h h' => by
    rw [h] at h'
    injection h' with h'
    injection h' with h1 h2
    exact ⟨h1, h2⟩
  refine ⟨by simp [I.size], fun i p hp hi => ?_, fun i h4 h5 => ?_, h1, h2, h3, Env.le_trans I.le hle, fun b hb => ?_, hos.trans I.os, htp.trans I.tape, hout.trans I.output, Nat.le_trans I.grow hsz, fun q hq hn => ?_, fun b t e sz q k h4 h5 h6 h7 => ?_, fun b t e sz h => ?_, fun b t e sz b' t' e' sz' q k k' h h' h4 h5 => ?_, fun x hx => ?_, fun k hk hkl => ?_⟩
  · rw [hget] at hi ⊢
    by_cases hij : i = j
    · subst hij
      rw [hc p hp]
      simp
    · rw [if_neg hij] at hi
      rw [I.closed i p hp hi]
      simp
  · rw [hget, if_neg (by omega)]
    exact I.rest i h4 h5
  · rw [hnew b (by
      rcases hb with hb | hb
      · left; omega
      · right; omega)]
    exact I.new b hb
  · rcases hstay q (Nat.lt_of_lt_of_le hq I.grow) with h4 | ⟨b, k, t, e, sz, h4, h5, h6⟩
    · rw [h4]
      exact I.stay q hq hn
    · exact absurd h6 (hn b t e sz k h4 h5)
  · obtain ⟨q', k', h8, h9, h10⟩ := hlive _ _ _ _ h5
    obtain ⟨rfl, rfl⟩ := two h6 h8
    rcases h10 with ⟨h11, _⟩ | ⟨h11, t0, e0, sz0, h12⟩
    · have := I.grow
      omega
    · exact I.back b t0 e0 sz0 q k h4 h12 h11 h7
  · obtain ⟨q, k, h8, h9, _⟩ := hlive _ _ _ _ h
    exact ⟨q, k, h8, h9⟩
  · obtain ⟨q1, k1, h8, h9, h10⟩ := hlive _ _ _ _ h
    obtain ⟨q2, k2, h11, h12, h13⟩ := hlive _ _ _ _ h'
    obtain ⟨rfl, rfl⟩ := two h4 h8
    obtain ⟨rfl, rfl⟩ := two h5 h11
    rcases h10 with ⟨h14, h15, h16⟩ | ⟨h14, t0, e0, sz0, h15⟩ <;> rcases h13 with ⟨h17, h18, h19⟩ | ⟨h17, t1, e1, sz1, h18⟩
    · exact hin _ _ _ _ _ _ _ _ _ _ _ h15 h16 h18 h19 h h' h4 h5
    · have := lt _ _ _ _ _ _ h18 h17
      omega
    · have := lt _ _ _ _ _ _ h15 h14
      omega
    · exact I.inj _ _ _ _ _ _ _ _ _ _ _ h15 h18 h14 h17
  · obtain ⟨k, hk⟩ := I.glo x hx
    exact ⟨k, hle _ _ hk⟩
  · rw [hget] at hkl
    have hkj : k ≠ j := fun e => by rw [if_pos e] at hkl; cases hkl
    rw [if_neg hkj] at hkl
    intro x hx1 hx2
    rw [hnew x (by
      rcases Nat.lt_or_ge x (g j).lo with h4 | h4
      · exact .inl h4
      · rcases Nat.lt_or_ge x (g j).hi with h5 | h5
        · exact absurd (T.apart hk hj hx1 hx2 h4 h5) hkj
        · exact .inr h5)]
    exact I.free k hk hkl x hx1 hx2
/-- What is seen behind number j, but for what it made itself. -/
theorem seen_back {listed : Array Bool} {j x : Nat} (hjl : j < listed.size) (h : SeenD c g s (listed.setIfInBounds j true) x) (hx : x < (g j).lo ∨ (g j).hi ≤ x) : SeenD c g s listed x := by
  refine ⟨h.1, fun k hk hkl => ?_⟩
  by_cases hkj : k = j
  · subst hkj; exact hx
  · exact h.2 k hk (by rw [set_get hjl, if_neg hkj]; exact hkl)
theorem pend_set {listed : Array Bool} {j x : Nat} (hjl : j < listed.size) (hne : stOf st j ≠ some x) : Pend st s (listed.setIfInBounds j true) x ↔ Pend st s listed x := by
  constructor
  · rintro ⟨q, h1, h2, h3⟩
    have hqj : q ≠ j := fun e => hne (e ▸ h2)
    exact ⟨q, h1, h2, by rw [set_get hjl, if_neg hqj] at h3; exact h3⟩
  · rintro ⟨q, h1, h2, h3⟩
    have hqj : q ≠ j := fun e => hne (e ▸ h2)
    exact ⟨q, h1, h2, by rw [set_get hjl, if_neg hqj]; exact h3⟩
theorem Inv.nextG {D : List Deferred} {ρ ρ' ρ2 : Env} {W0 W W2 : World} {listed : Array Bool} {a : Act} (I : Inv c nt D ops dsts tm st g N s ρ W0 listed ρ' a W) (T : Told c cl nt ops dsts tm ms st g N s) {j mask : Nat} (hj : j < s) (hn : stOf st j = none)
    (hc : ∀ k, Reach ops j k → listed[k]? = some true) {o : Oper} (ho : ops[j]? = some o) {V : Value} (hv : Rep ρ2 (g j).v V)
    (hst : Stp (ctxG c ms st mask j (upto g j) (N j).cnt) ρ' (N j) W ρ2 (N (j + 1)) W2) : Inv c nt D ops dsts tm st g N s ρ W0 (listed.setIfInBounds j true) ρ2 (a.put o.dst V) W2 := by
  have hjl : j < listed.size := by rw [I.size]; have := T.sle; omega
  have hlo := T.lo hj
  have hhi := T.hi hj
  have hN0 := T.cnt (j := 0) (k := j) (by omega) (by omega)
  have hold : ∀ q, q < W.heap.size → W2.heap[q]? = W.heap[q]? := fun q hq => hst.frame q hq (fun b t e sz k h1 h2 h3 => by
    have := T.wfAt (k := j) (by omega) _ _ h2.2
    have h1' : (N j).cnt ≤ b := h1
    omega)
  have hnewg : ∀ b t e sz q k, (N j).cnt ≤ b → Live (ctxG c ms st mask j (upto g j) (N j).cnt) (N (j + 1)) b t e sz → ρ2 b = some (q, k) → W.heap.size ≤ q := by
    intro b t e sz q k h1 h2 h3
    rcases Nat.lt_or_ge q W.heap.size with h4 | h4
    · obtain ⟨b0, t0, e0, sz0, k0, h5, h6, _⟩ := hst.back b t e sz q k h1 h2 h3 h4
      have := T.wfAt (k := j) (by omega) _ _ h6.2
      have h5' : (N j).cnt ≤ b0 := h5
      omega
    · exact h4
  have hrow : ∀ b, (b < (g j).lo ∨ (g j).hi ≤ b) → ρ2 b = ρ' b := fun b hb => hst.new b (by rw [hlo, hhi] at hb; exact hb)
  -- what it made is seen as it is
  have hmade : ∀ b t e sz, (g j).lo ≤ b → b < (g j).hi → LiveD c st g N s (listed.setIfInBounds j true) b t e sz → Live (ctxG c ms st mask j (upto g j) (N j).cnt) (N (j + 1)) b t e sz := by
    intro b t e sz h1 h2 h3
    have hnost : ∀ q, stOf st q ≠ some b := fun q e => by
      have := (T.stc e).2.1
      omega
    refine ⟨(seenIn_iff _ _).2 (fun r hr => ?_), ?_⟩
    · unfold ctxG at hr
      simp only at hr
      rcases List.mem_append.1 hr with hr | hr
      · obtain ⟨p, hp, rfl⟩ := hidSt_mem st hr
        right
        have := (okSt_ok (j := p.1) (b := p.2) st T.oks hp).2.1
        simp only
        omega
      · rcases List.mem_append.1 hr with hr | hr
        · obtain ⟨q, hq, _, rfl⟩ := mem_hidOf _ hr
          obtain ⟨k, hk, rfl⟩ := upto_mem hq
          right
          rw [T.hi (by omega)]
          have := T.cnt (j := k + 1) (k := j) (by omega) (by omega)
          simp only
          omega
        · exact (seenIn_iff _ _).1 h3.1.1 r hr
    · rcases h3.2 with ⟨⟨q, _, h4, _⟩, _⟩ | ⟨_, h4⟩
      · exact absurd h4 (hnost q)
      · rw [← T.same (j := j + 1) (by rw [← hhi]; exact h2) (k := s) (by omega) (Nat.le_refl _) (fun q _ _ => hnost q)]
        exact h4
  have hother : ∀ b t e sz, (b < (g j).lo ∨ (g j).hi ≤ b) → LiveD c st g N s (listed.setIfInBounds j true) b t e sz → LiveD c st g N s listed b t e sz := by
    intro b t e sz h1 h2
    refine ⟨seen_back hjl h2.1 h1, ?_⟩
    have hp := pend_set (st := st) (s := s) (x := b) hjl (by rw [hn]; simp)
    rcases h2.2 with ⟨h3, h4⟩ | ⟨h3, h4⟩
    · exact .inl ⟨hp.1 h3, h4⟩
    · exact .inr ⟨fun h => h3 (hp.2 h), h4⟩
  refine I.next T hj hc ho hv hst.le hrow hst.os hst.tape hst.output hst.size (fun b t e sz h => ?_) (fun b t e sz b' t' e' sz' q k k' g1 g2 g3 g4 h h' h1 h2 => hst.rep.inj _ _ _ _ _ _ _ _ _ _ _ (hmade _ _ _ _ g1 g2 h) (hmade _ _ _ _ g3 g4 h') h1 h2) (fun q hq => .inl (hold q hq))
  by_cases hin : (g j).lo ≤ b ∧ b < (g j).hi
  · have hm := hmade _ _ _ _ hin.1 hin.2 h
    obtain ⟨q, k, h1, h2⟩ := hst.rep.row _ _ _ _ hm
    exact ⟨q, k, h1, h2, .inl ⟨hnewg _ _ _ _ _ _ (by omega) hm h1, hin⟩⟩
  · have ho' := hother _ _ _ _ (by omega) h
    obtain ⟨q, k, h1, h2⟩ := I.row _ _ _ _ ho'
    exact ⟨q, k, by rw [hrow b (by omega)]; exact h1, RowRep.same hst.le (hold q h2.lt) h2, .inr ⟨h1, _, _, _, ho'⟩⟩
theorem Inv.nextC {D : List Deferred} {ρ ρ' : Env} {W0 W : World} {listed : Array Bool} {a : Act} (I : Inv c nt D ops dsts tm st g N s ρ W0 listed ρ' a W) (T : Told c cl nt ops dsts tm ms st g N s) {j : Nat} (hj : j < s) (hjn : listed[j]? ≠ some true) (hN : N (j + 1) = N j)
    (hc : ∀ k, Reach ops j k → listed[k]? = some true) {o : Oper} (ho : ops[j]? = some o) {V : Value} (hv : Rep ρ' (g j).v V) :
    Inv c nt D ops dsts tm st g N s ρ W0 (listed.setIfInBounds j true) ρ' (a.put o.dst V) W := by
  have hjl : j < listed.size := by rw [I.size]; have := T.sle; omega
  have hlo := T.lo hj
  have hhi := T.hi hj
  rw [hN] at hhi
  have hother : ∀ b t e sz, LiveD c st g N s (listed.setIfInBounds j true) b t e sz → LiveD c st g N s listed b t e sz := by
    intro b t e sz h2
    refine ⟨seen_back hjl h2.1 (by omega), ?_⟩
    by_cases hjb : stOf st j = some b
    · have hb0 := (T.stc hjb).2.1
      have hnp : ¬ Pend st s (listed.setIfInBounds j true) b := by
        rintro ⟨q, _, h3, h4⟩
        have := T.one h3 hjb
        subst this
        rw [set_get hjl, if_pos rfl] at h4
        exact h4 rfl
      rcases h2.2 with ⟨h3, _⟩ | ⟨_, h4⟩
      · exact absurd h3 hnp
      · left
        refine ⟨⟨j, hj, hjb, hjn⟩, ?_⟩
        have h5 := T.cnt (j := 0) (k := j) (by omega) (by omega)
        rw [T.same (j := j + 1) (x := b) (by rw [hN]; omega) (k := s) (by omega) (Nat.le_refl _) (fun q h6 _ h7 => by have := T.one h7 hjb; omega), hN, T.same (j := 0) (x := b) hb0 (k := j) (by omega) (by omega) (fun q _ h6 h7 => by have := T.one h7 hjb; omega)] at h4
        exact h4
    · have hp := pend_set (st := st) (s := s) (x := b) hjl hjb
      rcases h2.2 with ⟨h3, h4⟩ | ⟨h3, h4⟩
      · exact .inl ⟨hp.1 h3, h4⟩
      · exact .inr ⟨fun h => h3 (hp.2 h), h4⟩
  refine I.next T hj hc ho hv (Env.le_refl ρ') (fun _ _ => rfl) rfl rfl rfl (Nat.le_refl _) (fun b t e sz h => ?_) (fun b t e sz b' t' e' sz' q k k' g1 g2 => by omega) (fun q hq => .inl rfl)
  have ho' := hother _ _ _ _ h
  obtain ⟨q, k, h1, h2⟩ := I.row _ _ _ _ ho'
  exact ⟨q, k, h1, h2, .inr ⟨h1, _, _, _, ho'⟩⟩
theorem Inv.nextB {D : List Deferred} {ρ ρ' ρ2 : Env} {W0 W W2 : World} {listed : Array Bool} {a : Act} (I : Inv c nt D ops dsts tm st g N s ρ W0 listed ρ' a W) (T : Told c cl nt ops dsts tm ms st g N s) {j b : Nat} (hj : j < s) (hjn : listed[j]? ≠ some true) (hb : stOf st j = some b) {m1 : Mem} {r : AB} (hr : m1.h.get b = some r) (hcnt : m1.cnt = (N j).cnt) (hN : N (j + 1) = ⟨(N j).h.set b r, (N j).cnt⟩)
    (hc : ∀ k, Reach ops j k → listed[k]? = some true) {o : Oper} (ho : ops[j]? = some o) {V : Value} (hv : Rep ρ2 (g j).v V)
    (hst : Stp (ctxB c b (N j).cnt) ρ' (N j) W ρ2 m1 W2) : Inv c nt D ops dsts tm st g N s ρ W0 (listed.setIfInBounds j true) ρ2 (a.put o.dst V) W2 := by
  have hjl : j < listed.size := by rw [I.size]; have := T.sle; omega
  have hlo := T.lo hj
  have hhi := T.hi hj
  have hhi' : (g j).hi = (N j).cnt := by rw [hhi, hN]
  obtain ⟨hb1, hb2, t0, e0, sz0, hb3⟩ := T.stc hb
  have hsame : ∀ x, ρ2 x = ρ' x := fun x => hst.new x (by rw [hcnt]; omega)
  have hN0 := T.cnt (j := 0) (k := j) (by omega) (by omega)
  have hbD : LiveD c st g N s listed b t0 e0 sz0 := by
    refine ⟨⟨hb3.1, fun k hk _ => .inl ?_⟩, .inl ⟨⟨j, hj, hb, hjn⟩, hb3.2⟩⟩
    rw [T.lo hk]
    have := T.cnt (j := 0) (k := k) (by omega) (by omega)
    omega
  have hnp : ¬ Pend st s (listed.setIfInBounds j true) b := by
    rintro ⟨q, _, h3, h4⟩
    have := T.one h3 hb
    subst this
    rw [set_get hjl, if_pos rfl] at h4
    exact h4 rfl
  have hother : ∀ x t e sz, x ≠ b → LiveD c st g N s (listed.setIfInBounds j true) x t e sz → LiveD c st g N s listed x t e sz := by
    intro x t e sz hx h2
    refine ⟨seen_back hjl h2.1 (by omega), ?_⟩
    have hp := pend_set (st := st) (s := s) (x := x) hjl (by rw [hb]; intro e; injection e with e; exact hx e.symm)
    rcases h2.2 with ⟨h3, h4⟩ | ⟨h3, h4⟩
    · exact .inl ⟨hp.1 h3, h4⟩
    · exact .inr ⟨fun h => h3 (hp.2 h), h4⟩
  have hfr : ∀ q, q < W.heap.size → (∀ k, ρ' b ≠ some (q, k)) → W2.heap[q]? = W.heap[q]? := fun q hq hne => hst.frame q hq (fun x t e sz k h1 h2 h3 => by
    obtain ⟨hx, _⟩ := T.memB (listed := listed) hj hjn hb x t e sz h2
    subst hx
    exact hne k h3)
  refine I.next T hj hc ho hv hst.le (fun x _ => hsame x) hst.os hst.tape hst.output hst.size (fun x t e sz h => ?_) (fun x t e sz b' t' e' sz' q k k' g1 g2 => by omega) (fun q hq => ?_)
  · by_cases hx : x = b
    · subst hx
      rcases h.2 with ⟨h3, _⟩ | ⟨_, h4⟩
      · exact absurd h3 hnp
      · rw [T.same (j := j + 1) (x := x) (by rw [hN]; show x < (N j).cnt; omega) (k := s) (by omega) (Nat.le_refl _) (fun q h6 _ h7 => by have := T.one h7 hb; omega), hN] at h4
        have hre := Tr.get_set_self _ _ _ _ h4
        rw [← hre] at hr
        have hl1 : Live (ctxB c x (N j).cnt) m1 x t e sz := by
          refine ⟨(seenIn_iff _ _).2 (fun p hp => ?_), hr⟩
          simp only [ctxB, List.mem_cons, List.not_mem_nil, or_false] at hp
          rcases hp with rfl | rfl <;> simp only <;> omega
        obtain ⟨q, k, h5, h6⟩ := hst.rep.row _ _ _ _ hl1
        exact ⟨q, k, h5, h6, .inr ⟨by rw [← hsame]; exact h5, _, _, _, hbD⟩⟩
    · have ho' := hother _ _ _ _ hx h
      obtain ⟨q, k, h1, h2⟩ := I.row _ _ _ _ ho'
      exact ⟨q, k, by rw [hsame]; exact h1, RowRep.same hst.le (hfr q h2.lt (fun k' h3 => hx (I.inj _ _ _ _ _ _ _ _ _ _ _ ho' hbD h1 h3))) h2, .inr ⟨h1, _, _, _, ho'⟩⟩
  · by_cases hq' : ∃ k, ρ' b = some (q, k)
    · obtain ⟨k, hk⟩ := hq'
      exact .inr ⟨b, k, t0, e0, sz0, hb1, hb3, by rw [← I.new b (.inl hb2)]; exact hk⟩
    · exact .inl (hfr q hq (fun k hk => hq' ⟨k, hk⟩))
end

end Go.Proofs.YtajmkdbokdjmeaaGreat
/- An evaluator: a region that draws its order, whole. Kit only. -/
namespace Go.Proofs.YtajmkdbokdjmeaaGreat
open Go.RowKit
noncomputable def putRows (nt : Nat) (tm : Tr AV) (R : List Row) : Option (Tr AV) :=
  List.rec (motive := fun _ => Option (Tr AV)) (some tm) (fun r _ ih => match ih with | some t => evPut nt t r.dst r.v | none => none) R
theorem putRows_get {nt : Nat} {tm : Tr AV} {t : Nat} {u : AV} : ∀ (R : List Row) (tm' : Tr AV), putRows nt tm R = some tm' → tm'.get t = some u → (∃ r ∈ R, r.dst = some t ∧ u = r.v) ∨ ((∀ r ∈ R, r.dst ≠ some t) ∧ tm.get t = some u)
  | [], tm', h, hu => by
    have h' : some tm = some tm' := h
    injection h' with h'
    subst h'
    exact .inr ⟨fun r hr => (by cases hr), hu⟩
  | r :: R, tm', h, hu => by
    have h' : (match putRows nt tm R with | some t => evPut nt t r.dst r.v | none => none) = some tm' := h
    split at h'
    · rename_i t1 ht1
      have more : r.dst ≠ some t → t1.get t = some u → (∃ q ∈ r :: R, q.dst = some t ∧ u = q.v) ∨ ((∀ q ∈ r :: R, q.dst ≠ some t) ∧ tm.get t = some u) := fun hne hu => by
        rcases putRows_get R t1 ht1 hu with ⟨q, hq, h2⟩ | ⟨h2, h3⟩
        · exact .inl ⟨q, by simp [hq], h2⟩
        · exact .inr ⟨fun q hq => by
            rcases List.mem_cons.1 hq with rfl | hq
            · exact hne
            · exact h2 q hq, h3⟩
      unfold evPut at h'
      split at h'
      · rename_i hd
        injection h' with h'
        subst h'
        exact more (by rw [hd]; simp) hu
      · rename_i d hd
        cases hb : Nat.blt d nt <;> rw [hb] at h'
        · cases h'
        injection h' with h'
        subst h'
        rcases t1.get_set _ _ _ _ hu with ⟨rfl, rfl⟩ | ⟨h2, h3⟩
        · exact .inl ⟨r, by simp, hd, rfl⟩
        · exact more (by rw [hd]; intro e; injection e with e; exact h2 e.symm) h3
    · cases h'
noncomputable def evDrawn (c : Ctx) (cl : Ctx → Nat → List AV → Mem → RV) (nt : Nat) (ops : Array Oper) (tm : Tr AV) (m : Mem) : RT :=
  cond (c.P.follows .mixedOrders)
    (match masksOf ops.toList 0 0 .e [] with
    | some (s, ms) =>
      cond (pureFrom ops.toList ms ops.toList 0) (cond (uniqSt (stScan ((ops.toList.take s).map (·.dst)) tm (ops.toList.take s) 0)) (cond (okSt c m (stScan ((ops.toList.take s).map (·.dst)) tm (ops.toList.take s) 0))
        (match evPre c cl nt ops ((ops.toList.take s).map (·.dst)) tm ms (stScan ((ops.toList.take s).map (·.dst)) tm (ops.toList.take s) 0) m.cnt (ops.toList.take s) 0 [] m with
        | .ok R mp =>
          match putRows nt tm R with
          | some tm1 => evSeq c (cl c) nt ops (ops.toList.drop s) tm1 mp
          | none => .fail
        | .fail => .fail) .fail) .fail) .fail
    | none => .fail) .fail
theorem tail_any {P : Program} {ops : Array Oper} {s : Nat} {ms : Tr Nat} {Q : Exit → Act → World → Prop} (F : PureOK ops ms) (hm : MaskOK ops ops.size s ms) (hbl : ∀ i j, i < ops.size → Reach ops i j → j < i) : ∀ (fuel q : Nat) (listed : Array Bool) (a : Act) (W : World), listed.size = ops.size → s ≤ q → q ≤ ops.size →
    (∀ i, i < q → listed[i]? = some true) → (∀ i, q ≤ i → i < ops.size → listed[i]? = some false) → ops.size - q ≤ fuel → wpOps P ops (NormQ Q) (List.range' q (ops.size - q)) a W → wpAny P .any ops (NormQ Q) fuel listed a W := by
  intro fuel
  induction fuel with
  | zero =>
    intro q listed a W hsz h1 h2 h3 h4 h5 h6
    have : q = ops.size := by omega
    subst this
    simp only [Nat.sub_self, List.range'_zero, wpOps] at h6
    unfold wpAny
    refine ⟨List.eq_nil_iff_forall_not_mem.2 (fun i hi => ?_), h6⟩
    obtain ⟨g1, g2, _⟩ := mem_ready hsz hi
    rw [h3 i g1] at g2
    cases g2
  | succ fuel ih =>
    intro q listed a W hsz h1 h2 h3 h4 h5 h6
    have hcl : Closed ops listed := fun i j hr hi => by
      have hlt : i < ops.size := by rw [← hsz]; exact (Array.getElem?_eq_some_iff.1 hi).1
      rcases Nat.lt_or_ge i q with h7 | h7
      · exact h3 _ (Nat.lt_trans (hbl i j hlt hr) h7)
      · rw [h4 i h7 hlt] at hi
        cases hi
    rcases Nat.lt_or_ge q ops.size with hq | hq
    · have hqr : q ∈ Region.ready .any ops listed := ready_mem hq (h4 q (Nat.le_refl _) hq) (fun o ho e he hb => h3 _ (hm.low q o hq ho e he hb))
      have hstep : wpOp P ops (NormQ Q) q (wpAny P .any ops (NormQ Q) fuel (listed.setIfInBounds q true)) a W := by
        rw [show ops.size - q = (ops.size - (q + 1)) + 1 by omega, List.range'_succ, wpOps_cons] at h6
        refine wpOp_mono (fun a' W' hw => ?_) h6
        have hget : ∀ k, (listed.setIfInBounds q true)[k]? = if k = q then some true else listed[k]? := fun k => set_get (by omega)
        exact ih (q + 1) _ a' W' (by simp [hsz]) (by omega) (by omega) (fun k hk => by
          rw [hget]
          split
          · rfl
          · exact h3 k (by omega)) (fun k hk1 hk2 => by
          rw [hget, if_neg (by omega)]
          exact h4 k (by omega) hk2) (by omega) hw
      have hqo : ops[q]? = some ops[q] := Array.getElem?_eq_getElem hq
      cases hp : isPu ops[q]
      · unfold wpAny
        refine ⟨fun he => (by rw [he] at hqr; cases hqr), fun i hi => ?_⟩
        obtain ⟨g1, g2, g3⟩ := mem_ready hsz hi
        have hiq : i = q := by
          rcases Nat.lt_trichotomy i q with h7 | h7 | h7
          · rw [h3 i h7] at g2; cases g2
          · exact h7
          · have hr := hm.tail i (by omega) g1 q h7
            have : listed[q]? = some true := by
              cases hr with
              | edge ho he hb => exact g3 _ ho _ he hb
              | more ho he hb hr => exact hcl.reach hr (g3 _ ho _ he hb)
              | part hj hp' _ _ =>
                rw [hqo] at hj
                injection hj with hj
                rw [← hj, hp] at hp'
                cases hp'
            rw [h4 q (Nat.le_refl _) hq] at this
            cases this
        subst hiq
        exact hstep
      · refine part_first F hqo hp hqr (fun j hj => ?_) hstep
        unfold bitAt at hj
        split at hj
        · rename_i k hk
          rw [bitOf_eq] at hj
          exact h3 j (hbl q j hq (hm.bits q k hk j hj))
        · cases hj
    · have : q = ops.size := by omega
      subst this
      simp only [Nat.sub_self, List.range'_zero, wpOps] at h6
      unfold wpAny
      refine ⟨fun _ => h6, fun i hi => ?_⟩
      obtain ⟨g1, g2, _⟩ := mem_ready hsz hi
      rw [h3 i g1] at g2
      cases g2
theorem undone_pos {listed : Array Bool} {j : Nat} (h : listed[j]? ≠ some true) : ∀ n, j < n → 1 ≤ undone listed n
  | 0, hj => by omega
  | n + 1, hj => by
    rw [undone]
    rcases Nat.lt_or_ge j n with h1 | h1
    · have := undone_pos h n h1
      omega
    · have : j = n := by omega
      subst this
      rw [if_neg h]
      omega
theorem undone_tail {listed : Array Bool} {s : Nat} (h1 : ∀ i, i < s → listed[i]? = some true) : ∀ n, (∀ i, s ≤ i → i < n → listed[i]? = some false) → undone listed n = n - s
  | 0, _ => by simp [undone]
  | n + 1, h2 => by
    rw [undone, undone_tail h1 n (fun i hi hi' => h2 i hi (by omega))]
    rcases Nat.lt_or_ge n s with h3 | h3
    · rw [h1 n h3, if_pos rfl]; omega
    · rw [h2 n h3 (by omega), if_neg (by simp)]; omega
theorem evDrawn_ok {D : List Deferred} {c : Ctx} {cl : Ctx → Nat → List AV → Mem → RV} {nt : Nat} {ops : Array Oper} {tm tm' : Tr AV} {m m' : Mem} {ρ : Env} {a : Act} {W : World} {Q : Exit → Act → World → Prop} {id : Nat} (hcl : ∀ c' : Ctx, c'.P = c.P → CallOK c' (cl c')) (hst : ∀ c', CallSt c' (cl c')) (h : evDrawn c cl nt ops tm m = .ok tm' m')
    (ht : TmR D ρ tm nt a) (hr : HRep c ρ m W) (hb : c.bar ≤ m.cnt) (hw : m.wf) (hf : Free ρ m.cnt m'.cnt) (hQ : ∀ a' W' ρ', TmR D ρ' tm' nt a' → Stp c ρ m W ρ' m' W' → Q .normal a' W') : (Code.region id ops true).wp c.P Q a W := by
  unfold evDrawn at h
  cases hmx : c.P.follows .mixedOrders <;> rw [hmx] at h
  · cases h
  simp only [cond_true] at h
  split at h
  · rename_i s ms hmask
    obtain ⟨hM, hs⟩ := masksOf_ok (ops := ops) ops.toList 0 0 s .e ms [] (fun q => by simp) hmask (Nat.le_refl _) (fun p hp => by cases hp) ⟨fun i k hk => (by rw [Tr.get_e] at hk; cases hk), fun i o hi => (by omega), fun i _ hi => (by omega)⟩
    simp only [Nat.zero_add, Array.length_toList] at hM hs
    cases hpf : pureFrom ops.toList ms ops.toList 0 <;> rw [hpf] at h
    · cases h
    simp only [cond_true] at h
    have F := pureOK hpf
    revert h
    generalize hst0 : stScan ((ops.toList.take s).map (·.dst)) tm (ops.toList.take s) 0 = st
    intro h
    cases hun : uniqSt st <;> rw [hun] at h
    · cases h
    cases hoks : okSt c m st <;> rw [hoks] at h
    · cases h
    simp only [cond_true] at h
    split at h
    · rename_i R mp hpre
      split at h
      · rename_i tm1 hput
        obtain ⟨g, N, _, hN0, hR, hNs, hsteps⟩ := evPre_steps (ops.toList.take s) 0 (fun _ => ⟨0, none, .nilp, 0, 0⟩) (fun _ => m) R mp hpre
        have hlen : (ops.toList.take s).length = s := by simp; omega
        rw [hlen, Nat.zero_add] at hR hNs
        have hN00 : N 0 = m := hN0 0 (Nat.le_refl _)
        have T : Told c cl nt ops ((ops.toList.take s).map (·.dst)) tm ms st g N s := by
          refine Told.mk' hst (fun j hj => ?_) (fun j hj o ho => ?_) (by rw [hN00]; exact hb) (by rw [hN00]; exact hw) hun (by rw [hN00]; exact hoks) hM hs
          · have hjn : j < ops.size := by omega
            have hoj : (ops.toList.take s)[j]? = some ops[j] := by
              rw [List.getElem?_take, if_pos hj]
              simp [hjn]
            obtain ⟨mask, hmk⟩ := hsteps j ops[j] hoj
            rw [Nat.zero_add, ← hN00] at hmk
            exact ⟨ops[j], mask, Array.getElem?_eq_getElem hjn, hmk⟩
          · have hoj : (ops.toList.take s)[j]? = some o := by
              rw [List.getElem?_take, if_pos hj]
              simpa using ho
            exact List.mem_map.2 ⟨o, List.mem_of_getElem? hoj, rfl⟩
        refine NormQ.wp (wp_region_any hmx ?_)
        have hbl : ∀ i j, i < ops.size → Reach ops i j → j < i := fun i j hi hr => T.below hi hr
        have start : Inv c nt D ops ((ops.toList.take s).map (·.dst)) tm st g N s ρ W (Array.replicate ops.size false) ρ a { W with drawn := W.drawn + 1 } := by
          have hfalse : ∀ i, i < ops.size → (Array.replicate ops.size false)[i]? = some false := fun i hi => by simp [hi]
          have hnot : ∀ i : Nat, (Array.replicate ops.size false)[i]? ≠ some true := fun i => by
            by_cases hi : i < ops.size
            · rw [hfalse i hi]; simp
            · rw [Array.getElem?_eq_none (by simp; omega)]; simp
          have hlive : ∀ b t e sz, LiveD c st g N s (Array.replicate ops.size false) b t e sz → Live c m b t e sz := by
            intro b t e sz hl
            obtain ⟨⟨h1, h2⟩, h3⟩ := hl
            rcases h3 with ⟨_, h3⟩ | ⟨h4, h3⟩
            · exact ⟨h1, by rw [← hN00]; exact h3⟩
            · have hlt := T.wfAt (Nat.le_refl _) _ _ h3
              have hlt0 : b < (N 0).cnt := by
                rcases Nat.lt_or_ge b (N 0).cnt with h5 | h5
                · exact h5
                · obtain ⟨j, h6, h7, h8⟩ := T.tile h5 s (Nat.le_refl _) hlt
                  have := h2 j h6 (hnot j)
                  omega
              refine ⟨h1, ?_⟩
              rw [← hN00, ← T.same hlt0 (Nat.zero_le s) (Nat.le_refl _) (fun q _ hq e => h4 ⟨q, hq, e, hnot q⟩)]
              exact h3
          refine ⟨by simp, fun i o _ hi => absurd hi (hnot i), fun i _ hi => hfalse i hi, ⟨ht.1, ht.2.1⟩, fun t v _ hv => ht.2.2 t v hv, fun j _ hj => absurd hj (hnot j), Env.le_refl ρ, fun _ _ => rfl, rfl, rfl, rfl, Nat.le_refl _, fun _ _ _ => rfl, fun b t e sz q k h1 h2 h3 _ => ⟨b, t, e, sz, k, h1, by rw [hN00]; exact hlive _ _ _ _ h2, h3⟩, fun b t e sz hl => ?_, fun b t e sz b' t' e' sz' q k k' h1 h2 => hr.inj _ _ _ _ _ _ _ _ _ _ _ (hlive _ _ _ _ h1) (hlive _ _ _ _ h2), hr.glo, fun j hj _ => ?_⟩
          · obtain ⟨q, k, h1, h2⟩ := hr.row _ _ _ _ (hlive _ _ _ _ hl)
            exact ⟨q, k, h1, RowRep.same (Env.le_refl ρ) rfl h2⟩
          · refine hf.mono ?_ ?_
            · rw [T.lo hj, ← hN00]
              exact T.cnt (Nat.zero_le j) (by omega)
            · rw [T.hi hj]
              refine Nat.le_trans (T.cnt (j := j + 1) (k := s) (by omega) (Nat.le_refl _)) ?_
              rw [hNs]
              exact evSeq_cnt _ _ _ _ _ h
        have finish : ∀ (fuel : Nat) (listed : Array Bool) (ρ' : Env) (a' : Act) (W' : World), (∀ j, j < s → listed[j]? = some true) → undone listed ops.size ≤ fuel → Inv c nt D ops ((ops.toList.take s).map (·.dst)) tm st g N s ρ W listed ρ' a' W' → wpAny c.P .any ops (NormQ Q) fuel listed a' W' := by
          intro fuel listed ρ' a' W' hall hu I
          have hnp : ∀ x, ¬ Pend st s listed x := fun x ⟨q, h1, _, h2⟩ => h2 (hall q h1)
          have hD : ∀ b t e sz, Live c (N s) b t e sz → LiveD c st g N s listed b t e sz := fun b t e sz h1 => ⟨⟨h1.1, fun j hj h2 => absurd (hall j hj) h2⟩, .inr ⟨hnp b, h1.2⟩⟩
          have S : Stp c ρ m W ρ' mp W' := by
            rw [← hNs, ← hN00]
            refine ⟨T.cnt (Nat.zero_le s) (Nat.le_refl _), fun b hb' => T.same (Nat.lt_of_lt_of_le hb' T.bar) (Nat.zero_le s) (Nat.le_refl _) (fun q _ _ e => by have := (T.stc e).1; omega), I.le, I.new, I.os, I.tape, I.output, I.grow, I.stay, fun b t e sz q k h1 h2 => I.back b t e sz q k h1 (hD _ _ _ _ h2), ⟨fun b t e sz h1 => I.row b t e sz (hD _ _ _ _ h1), fun b t e sz b' t' e' sz' q k k' h1 h2 => I.inj _ _ _ _ _ _ _ _ _ _ _ (hD _ _ _ _ h1) (hD _ _ _ _ h2), I.glo⟩, fun _ => T.wfAt (Nat.le_refl _)⟩
          have htm : TmR D ρ' tm1 nt a' := by
            refine ⟨I.frame.1, I.frame.2, fun t u hu => ?_⟩
            rcases putRows_get R tm1 hput hu with ⟨r, h1, h2, h3⟩ | ⟨h1, h2⟩
            · rw [hR] at h1
              obtain ⟨k, hk, rfl⟩ := upto_mem h1
              rw [h3]
              exact I.done k hk (hall k hk) t h2
            · refine I.base t u (fun hm => ?_) h2
              obtain ⟨o, ho, hd⟩ := List.mem_map.1 hm
              obtain ⟨k, hk, rfl⟩ := List.getElem_of_mem ho
              have hks : k < s := by rw [hlen] at hk; exact hk
              obtain ⟨o', mask, ho', hsk⟩ := T.step k hks
              have : (ops.toList.take s)[k] = o' := by
                have h5 : (ops.toList.take s)[k]? = some o' := by
                  rw [List.getElem?_take, if_pos hks]
                  simpa using ho'
                rw [List.getElem?_eq_getElem hk] at h5
                injection h5
              rw [this] at hd
              exact h1 (g k) (by rw [hR]; exact mem_upto hks) (by rw [hsk.dst, hd])
          refine tail_any F hM hbl fuel s listed a' W' I.size (Nat.le_refl _) hs hall I.rest (by rw [undone_tail hall _ I.rest] at hu; exact hu) ?_
          refine evSeq_ok (hcl c rfl) (ops.toList.drop s) (List.range' s (ops.size - s)) tm1 tm' mp m' ρ' a' W' ?_ h htm S.rep (Nat.le_trans hb S.cnt) (S.wf hw) (hf.stp S) (fun a2 W2 ρ2 ht2 hs2 => ⟨rfl, hQ a2 W2 ρ2 ht2 (S.trans hs2)⟩)
          apply List.ext_getElem?
          intro k
          have hsk : ops.toList[s + k]? = ops[s + k]? := by simp
          rw [List.getElem?_map, List.getElem?_map, List.getElem?_drop, hsk]
          by_cases hk : k < ops.size - s
          · rw [List.getElem?_range' hk]
            simp only [Option.map_some, Nat.one_mul]
            rw [Array.getElem?_eq_getElem (by omega)]
            rfl
          · rw [List.getElem?_eq_none (by simp; omega), Array.getElem?_eq_none (by omega)]
            rfl
        have phase : ∀ (fuel : Nat) (listed : Array Bool) (ρ' : Env) (a' : Act) (W' : World), undone listed ops.size ≤ fuel → Inv c nt D ops ((ops.toList.take s).map (·.dst)) tm st g N s ρ W listed ρ' a' W' → wpAny c.P .any ops (NormQ Q) fuel listed a' W' := by
          intro fuel
          induction fuel with
          | zero =>
            intro listed ρ' a' W' hu I
            refine finish 0 listed ρ' a' W' (fun j hj => ?_) hu I
            refine Classical.byContradiction (fun hne => ?_)
            have := undone_pos hne ops.size (by omega)
            omega
          | succ fuel ih =>
            intro listed ρ' a' W' hu I
            by_cases hall : ∀ j, j < s → listed[j]? = some true
            · exact finish (fuel + 1) listed ρ' a' W' hall hu I
            · have hex : ∃ j, j < s ∧ listed[j]? ≠ some true := by
                refine Classical.byContradiction (fun hne => hall (fun j hj => ?_))
                exact Classical.byContradiction (fun h2 => hne ⟨j, hj, h2⟩)
              have hfls : ∀ j, j < s → listed[j]? ≠ some true → listed[j]? = some false := fun j hj hne => by
                have hjl : j < listed.size := by rw [I.size]; omega
                rw [Array.getElem?_eq_getElem hjl] at hne ⊢
                cases hb : listed[j]
                · rfl
                · rw [hb] at hne; exact absurd rfl hne
              have hstep : ∀ i, i ∈ Region.ready .any ops listed → (∀ k, Reach ops i k → listed[k]? = some true) → wpOp c.P ops (NormQ Q) i (wpAny c.P .any ops (NormQ Q) fuel (listed.setIfInBounds i true)) a' W' ∧ ∀ k, bitAt ms i k = true → listed[k]? = some true := by
                intro i hi g3
                obtain ⟨g1, g2, _⟩ := mem_ready I.size hi
                have his : i < s := by
                  rcases Nat.lt_or_ge i s with h5 | h5
                  · exact h5
                  · exfalso
                    obtain ⟨j, hj1, hj2⟩ := hex
                    exact hj2 (g3 _ (hM.tail i h5 g1 j (by omega)))
                have g2n : listed[i]? ≠ some true := by rw [g2]; simp
                obtain ⟨o, mask, ho, hsj⟩ := T.step i his
                have hmk : ∀ k, mask.testBit k = true → listed[k]? = some true := fun k hk => g3 k (hM.bits i mask hsj.bits k hk)
                have hu' : undone (listed.setIfInBounds i true) ops.size ≤ fuel := by
                  have := undone_set g2 ops.size g1
                  omega
                have hE := I.env T his hmk
                have hfree := I.free i his g2
                rw [T.lo his, T.hi his] at hfree
                refine ⟨?_, fun k hk => ?_⟩
                · unfold wpOp
                  simp only [ho]
                  rcases hsj.told with ⟨hg, hn, _, hop⟩ | ⟨b, m1, r, hg, hsb, _, _, _, hop, hm1, hcnt, hN⟩ | ⟨hg, hv, hN⟩
                  · have hH := I.hrep T his g2n hmk hsj.bits hn
                    rw [if_pos (evGuard_ok hg hE)]
                    refine .inl (evOper_ok (c := ctxG c ms st mask i (upto g i) (N i).cnt) hop (hcl _ rfl) hE hH (Nat.le_refl _) (T.wfAt (by omega)) hfree _ _ (fun V W2 ρ2 hv2 hst2 => ?_))
                    exact ih _ ρ2 _ W2 hu' (I.nextG T his hn g3 ho hv2 hst2)
                  · have hH := I.hrepB T his g2n hsb
                    rw [if_pos (evGuard_ok hg hE)]
                    have hbN : b ≤ (N i).cnt := by
                      have h5 := (T.stc hsb).2.1
                      have h6 := T.cnt (Nat.zero_le i) (by omega)
                      omega
                    refine .inl (evOper_ok (c := ctxB c b (N i).cnt) hop (hcl _ rfl) hE hH hbN (T.wfAt (by omega)) (fun x hx1 hx2 => by rw [hcnt] at hx2; omega) _ _ (fun V W2 ρ2 hv2 hst2 => ?_))
                    exact ih _ ρ2 _ W2 hu' (I.nextB T his g2n hsb hm1 hcnt hN g3 ho hv2 hst2)
                  · rw [if_neg (by rw [evGuard_ok hg hE]; simp)]
                    refine ih _ ρ' _ W' hu' (I.nextC T his g2n hN g3 ho (V := undef) ?_)
                    rw [hv, Rep]
                    exact ⟨[], by rw [RepL], rfl⟩
                · unfold bitAt at hk
                  rw [hsj.bits] at hk
                  simp only [bitOf_eq] at hk
                  exact hmk k hk
              by_cases hpx : ∃ p o, ops[p]? = some o ∧ isPu o = true ∧ p ∈ Region.ready .any ops listed
              · -- a part first: the least
                have least : ∀ n, (∃ p o, p < n ∧ ops[p]? = some o ∧ isPu o = true ∧ p ∈ Region.ready .any ops listed) → ∃ p o, ops[p]? = some o ∧ isPu o = true ∧ p ∈ Region.ready .any ops listed ∧ ∀ q o, q < p → ops[q]? = some o → isPu o = true → q ∉ Region.ready .any ops listed := by
                  intro n
                  induction n with
                  | zero => rintro ⟨p, _, h1, _⟩; omega
                  | succ n ihn =>
                    rintro ⟨p, o, h1, h2, h3, h4⟩
                    by_cases hb4 : ∃ p o, p < n ∧ ops[p]? = some o ∧ isPu o = true ∧ p ∈ Region.ready .any ops listed
                    · exact ihn hb4
                    · exact ⟨p, o, h2, h3, h4, fun q o' h5 h6 h7 h8 => hb4 ⟨q, o', by omega, h6, h7, h8⟩⟩
                obtain ⟨p0, o0, h1, h2, h3⟩ := hpx
                obtain ⟨p, o, h4, h5, h6, h7⟩ := least (p0 + 1) ⟨p0, o0, by omega, h1, h2, h3⟩
                obtain ⟨h8, h9⟩ := hstep p h6 (fun k hr => reach_done I.size I.closed hr h6 h7)
                exact part_first F h4 h5 h6 h9 h8
              · unfold wpAny
                refine ⟨fun he => ?_, fun i hi => (hstep i hi (fun k hr => reach_done I.size I.closed hr hi (fun p o _ h1 h2 h3 => hpx ⟨p, o, h1, h2, h3⟩))).1⟩
                exfalso
                obtain ⟨j, hj1, hj2⟩ := hex
                -- the least that is not done is ready
                have least : ∀ n, (∃ j, j < n ∧ j < s ∧ listed[j]? ≠ some true) → ∃ j, j < s ∧ listed[j]? ≠ some true ∧ ∀ k, k < j → listed[k]? = some true := by
                  intro n
                  induction n with
                  | zero => rintro ⟨j, h1, _⟩; omega
                  | succ n ihn =>
                    rintro ⟨j, h1, h2, h3⟩
                    by_cases hb4 : ∃ j, j < n ∧ j < s ∧ listed[j]? ≠ some true
                    · exact ihn hb4
                    · have hjn : j = n := by
                        rcases Nat.lt_or_ge j n with h5 | h5
                        · exact absurd ⟨j, h5, h2, h3⟩ hb4
                        · omega
                      subst hjn
                      exact ⟨j, h2, h3, fun k hk => Classical.byContradiction (fun hn => hb4 ⟨k, hk, by omega, hn⟩)⟩
                obtain ⟨j0, h1, h2, h3⟩ := least s ⟨j, hj1, hj1, hj2⟩
                have hj0n : j0 < ops.size := by omega
                have : j0 ∈ Region.ready .any ops listed := ready_mem hj0n (hfls j0 h1 h2) (fun o ho e he' hb' => h3 _ (hM.low j0 o hj0n ho e he' hb'))
                rw [he] at this
                cases this
        exact phase ops.size _ ρ a _ (by
          have : ∀ n, undone (Array.replicate ops.size false) n ≤ n := fun n => by
            induction n with
            | zero => simp [undone]
            | succ n ih => rw [undone]; split <;> omega
          exact this _) start
      · cases h
    · cases h
  · cases h

end Go.Proofs.YtajmkdbokdjmeaaGreat
