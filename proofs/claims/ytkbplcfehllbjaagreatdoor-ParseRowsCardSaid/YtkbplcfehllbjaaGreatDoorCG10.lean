/- Plain: rows of one sign, and rows of =. -/
import Derived.Test.YtkbplcfehllbjaaGreatDoorCG9
import Derived.Test.YtkbplcfehllbjaaGreatDoorCR4
namespace Go.Proofs.YtkbplcfehllbjaaGreatDoor
def nmA : Nd := .mk 2 [97] 0 Ty.none []
def tA : T4 := ⟨1, 0, [97], 0⟩
def tG (s : List UInt8) : T4 := ⟨4, 0, s, 0⟩
def rowN (s : List UInt8) : Nat → Nd
  | 0 => nmA
  | m + 1 => .mk 4 s 0 Ty.none [rowN s m, nmA]
def setN : Nat → Nd
  | 0 => nmA
  | m + 1 => Nd.of 5 [nmA, setN m]
def tailT (s : List UInt8) : Nat → List T4
  | 0 => []
  | m + 1 => tG s :: tA :: tailT s m
def endsT : List T4 := [⟨4, 0, [59], 0⟩, ⟨4, 0, [125], 0⟩, ⟨0, 0, [], 0⟩]
/-- What may stand behind an operand. -/
def Stop (X : List T4) : Prop := isP [91] X = false ∧ isP [46] X = false ∧ isP [45, 62] X = false ∧ isP [40] X = false
theorem unary_a {f : Nat} {X : List T4} (h : Stop X) : (recAt (f + 1)).unary (tA :: X) = .ok nmA X := by
  show unaryF (recAt f) (tA :: X) = _
  unfold unaryF
  rw [if_neg (by show ¬ false = true; decide), if_neg (by show ¬ false = true; decide), if_neg (by intro h; exact absurd h.1 (by show ¬ false = true; decide))]
  unfold postP
  show (PR.ok nmA X).bind _ = _
  rw [PR.bind_ok]
  refine loop_inr ?_
  obtain ⟨h1, h2, h3, h4⟩ := h
  unfold postStep
  rw [if_neg (by rw [h1]; decide), if_neg (by rw [h2]; decide), if_neg (by rw [h3]; decide), if_neg (by rw [h4]; decide)]
def GoodS (s : List UInt8) : Prop := 1 ≤ Go.Proofs.YtkbplcfehllbjaaGreatDoor.rowOf s ∧ s ≠ [91] ∧ s ≠ [46] ∧ s ≠ [45, 62] ∧ s ≠ [40] ∧ s ≠ [61]
theorem Stop.sign {s : List UInt8} (h : GoodS s) (X : List T4) : Stop (tG s :: X) :=
  ⟨beq_eq_false_iff_ne.2 h.2.1, beq_eq_false_iff_ne.2 h.2.2.1, beq_eq_false_iff_ne.2 h.2.2.2.1, beq_eq_false_iff_ne.2 h.2.2.2.2.1⟩
theorem Stop.eq (X : List T4) : Stop (tG [61] :: X) := ⟨rfl, rfl, rfl, rfl⟩
theorem Stop.ends : Stop endsT := ⟨rfl, rfl, rfl, rfl⟩
theorem Stop.row {s : List UInt8} (h : GoodS s) (m : Nat) : Stop (tailT s m ++ endsT) := by
  cases m with
  | zero => exact Stop.ends
  | succ m => exact Stop.sign h _
/-- An operand with nothing behind it that binds as close. -/
theorem bin_one {R : Nat} {f least : Nat} {X : List T4} (h : Stop X) (hr : Go.Proofs.YtkbplcfehllbjaaGreatDoor.rowOf (hdT X).text < least) : binP (recAt (R + 1)) (f + 1) least (tA :: X) = .ok nmA X := by
  show ((recAt (R + 1)).unary (tA :: X)).bind _ = _
  rw [unary_a h, PR.bind_ok]
  refine loop_inr ?_
  unfold binStep
  rw [if_pos hr]
theorem row_hd {s : List UInt8} (m : Nat) (hs : GoodS s) : Go.Proofs.YtkbplcfehllbjaaGreatDoor.rowOf (hdT (tailT s m ++ endsT)).text < Go.Proofs.YtkbplcfehllbjaaGreatDoor.rowOf s + 1 := by
  cases m with
  | zero => show Go.Proofs.YtkbplcfehllbjaaGreatDoor.rowOf [59] < _; have : Go.Proofs.YtkbplcfehllbjaaGreatDoor.rowOf [59] = 0 := rfl; omega
  | succ m => show Go.Proofs.YtkbplcfehllbjaaGreatDoor.rowOf s < _; omega
theorem row_loop {R : Nat} {s : List UInt8} (hs : GoodS s) : ∀ (m n k : Nat), m < n → loopP (binStep (binP (recAt (R + 1)) 8) 1) n (rowN s k) (tailT s m ++ endsT) = .ok (rowN s (k + m)) endsT
  | 0, n, k, h => by
    obtain ⟨n, rfl⟩ : ∃ n', n = n' + 1 := ⟨n - 1, by omega⟩
    exact loop_inr (by unfold binStep; rw [if_pos (by show Go.Proofs.YtkbplcfehllbjaaGreatDoor.rowOf [59] < 1; decide)]; rfl)
  | m + 1, n, k, h => by
    obtain ⟨n, rfl⟩ : ∃ n', n = n' + 1 := ⟨n - 1, by omega⟩
    have h1 : binStep (binP (recAt (R + 1)) 8) 1 (rowN s k) (tailT s (m + 1) ++ endsT) = .ok (.inl (rowN s (k + 1))) (tailT s m ++ endsT) := by
      unfold binStep
      rw [if_neg (by show ¬ Go.Proofs.YtkbplcfehllbjaaGreatDoor.rowOf s < 1; have := hs.1; omega)]
      show (binP (recAt (R + 1)) 8 (Go.Proofs.YtkbplcfehllbjaaGreatDoor.rowOf s + 1) (tA :: (tailT s m ++ endsT))).bind _ = _
      rw [bin_one (Stop.row hs m) (row_hd m hs)]
      rfl
    rw [loop_inl h1, row_loop hs m n (k + 1) (by omega)]
    congr 2; omega
theorem row_expr {R : Nat} {s : List UInt8} (hs : GoodS s) (m : Nat) : exprF (recAt (R + 1)) (tA :: (tailT s m ++ endsT)) = .ok (rowN s m) endsT := by
  unfold exprF
  have h : binP (recAt (R + 1)) 9 1 (tA :: (tailT s m ++ endsT)) = .ok (rowN s m) endsT := by
    show ((recAt (R + 1)).unary (tA :: (tailT s m ++ endsT))).bind _ = _
    rw [unary_a (Stop.row hs m), PR.bind_ok]
    have := row_loop (R := R) hs m ((tailT s m ++ endsT).length + 1) 0 (by
      have : m ≤ (tailT s m).length := by
        clear hs
        induction m with
        | zero => exact Nat.zero_le _
        | succ m ih => show m + 1 ≤ (tG s :: tA :: tailT s m).length; simp; omega
      simp; omega)
    rw [Nat.zero_add] at this
    exact this
  rw [h, PR.bind_ok, if_neg (by show ¬ false = true; decide)]
theorem set_expr : ∀ (m f : Nat), m < f → exprF (recAt f) (tA :: (tailT [61] m ++ endsT)) = .ok (setN m) endsT
  | 0, f, h => by
    obtain ⟨f, rfl⟩ : ∃ f', f = f' + 1 := ⟨f - 1, by omega⟩
    unfold exprF
    rw [show tailT [61] 0 ++ endsT = endsT from rfl, bin_one Stop.ends (by show Go.Proofs.YtkbplcfehllbjaaGreatDoor.rowOf [59] < 1; decide), PR.bind_ok, if_neg (by show ¬ false = true; decide)]
    rfl
  | m + 1, f, h => by
    obtain ⟨f, rfl⟩ : ∃ f', f = f' + 1 := ⟨f - 1, by omega⟩
    unfold exprF
    have ih := set_expr m f (by omega)
    rw [show tailT [61] (m + 1) ++ endsT = tG [61] :: tA :: (tailT [61] m ++ endsT) from rfl, bin_one (Stop.eq _) (by show Go.Proofs.YtkbplcfehllbjaaGreatDoor.rowOf [61] < 1; decide), PR.bind_ok, if_pos (show isP [61] (tG [61] :: tA :: (tailT [61] m ++ endsT)) = true from rfl)]
    show (exprF (recAt f) (tA :: (tailT [61] m ++ endsT))).bind _ = _
    rw [ih]; rfl
theorem fn_unit {x : Nd} {X : List T4} (hx : exprF (recAt 57) (tA :: (X ++ endsT)) = .ok x endsT) : ∃ r, unitP (preT ++ (tA :: (X ++ endsT))) = .ok (Nd.of 23 [fnN [Nd.of 12 [x]]]) r := by
  have hst : (recAt 59).stmt (tA :: (X ++ endsT)) = .ok (Nd.of 12 [x]) [⟨4, 0, [125], 0⟩, ⟨0, 0, [], 0⟩] := by
    show stmtF (recAt 58) (tA :: (X ++ endsT)) = _
    unfold stmtF
    rw [if_neg (by show ¬ false = true; decide), if_neg (by show ¬ false = true; decide), if_neg (by show ¬ false = true; decide), if_neg (by show ¬ false = true; decide), if_neg (by show ¬ false = true; decide), if_neg (by show ¬ false = true; decide), if_neg (by show ¬ false = true; decide), if_neg (by show ¬ false = true; decide)]
    show (exprF (recAt 57) (tA :: (X ++ endsT))).bind _ = _
    rw [hx]; rfl
  have hi : itemP (recAt 60) (recAt 59) (preT ++ (tA :: (X ++ endsT))) = .ok (fnN [Nd.of 12 [x]]) [⟨0, 0, [], 0⟩] := by
    rw [item_fn]
    have e : (tA :: (X ++ endsT)).length + 1 = (X.length + 3) + 1 + 1 := by simp [endsT]
    have h1 : blockStep (recAt 59) [] (tA :: (X ++ endsT)) = .ok (.inl [Nd.of 12 [x]]) [⟨4, 0, [125], 0⟩, ⟨0, 0, [], 0⟩] := by
      rw [bS, if_neg (by show ¬ false = true; decide), hst]; rfl
    rw [e, loop_inl h1]
    rfl
  refine ⟨[⟨0, 0, [], 0⟩], ?_⟩
  unfold unitP
  have hlen : (preT ++ (tA :: (X ++ endsT))).length + 1 = ((preT ++ (tA :: (X ++ endsT))).length - 1) + 1 + 1 := by simp [preT]
  rw [hlen, loop_succ, uS, if_neg (pre_kind _), hi]
  rfl
def rowB (s : List UInt8) : Nat → List UInt8
  | 0 => [97]
  | m + 1 => rowB s m ++ [32] ++ s ++ [32, 97]
def tailB (s : List UInt8) : Nat → List UInt8
  | 0 => []
  | m + 1 => 32 :: (s ++ (32 :: 97 :: tailB s m))
theorem tailB_snoc (s : List UInt8) : ∀ m : Nat, tailB s (m + 1) = tailB s m ++ (32 :: (s ++ [32, 97]))
  | 0 => rfl
  | m + 1 => by
    show 32 :: (s ++ (32 :: 97 :: tailB s (m + 1))) = (32 :: (s ++ (32 :: 97 :: tailB s m))) ++ _
    rw [tailB_snoc s m]
    simp
theorem rowB_eq (s : List UInt8) : ∀ m : Nat, rowB s m = 97 :: tailB s m
  | 0 => rfl
  | m + 1 => by
    show rowB s m ++ [32] ++ s ++ [32, 97] = _
    rw [rowB_eq s m, tailB_snoc]
    simp
def SignB (s : List UInt8) : Prop := ∀ Z : List UInt8, stepR (s ++ 32 :: Z) = .tok ⟨4, s.length, 0, 0⟩
theorem a_sp (Z : List UInt8) : stepR (97 :: 32 :: Z) = .tok ⟨1, 1, 0, 0⟩ := rfl
theorem lexk_row (s : List UInt8) (hs : SignB s) (hne : s ≠ []) : ∀ m : Nat, LexK (97 :: (tailB s m ++ [59, 32, 125])) ((tA :: (tailT s m ++ ([⟨4, 0, [59], 0⟩, ⟨4, 0, [125], 0⟩] : List T4))).map T4.key)
  | 0 => LexK.tok (R := [97, 59, 32, 125]) ⟨1, 1, 0, 0⟩ rfl (by simp) (LexK.tok (R := [59, 32, 125]) ⟨4, 1, 0, 0⟩ rfl (by simp) (LexK.skip (R := [32, 125]) 1 rfl (by simp) (LexK.tok (R := [125]) ⟨4, 1, 0, 0⟩ rfl (by simp) LexK.nil)))
  | m + 1 => by
    have ih := lexk_row s hs hne m
    have e : 97 :: (tailB s (m + 1) ++ [59, 32, 125]) = 97 :: 32 :: (s ++ (32 :: (97 :: (tailB s m ++ [59, 32, 125])))) := by simp [tailB]
    rw [e]
    have h1 := LexK.skip (R := 32 :: (97 :: (tailB s m ++ [59, 32, 125]))) 1 rfl (by simp) ih
    have h2 : LexK (s ++ (32 :: (97 :: (tailB s m ++ [59, 32, 125])))) ((4, s, 0) :: (tA :: (tailT s m ++ ([⟨4, 0, [59], 0⟩, ⟨4, 0, [125], 0⟩] : List T4))).map T4.key) := by
      have := LexK.tok (R := s ++ (32 :: (97 :: (tailB s m ++ [59, 32, 125])))) ⟨4, s.length, 0, 0⟩ (hs _) (by simp [hne]) (by rw [List.drop_left']; exact h1; rfl)
      rw [List.take_left' (by rfl)] at this
      exact this
    have h3 := LexK.skip (R := 32 :: (s ++ (32 :: (97 :: (tailB s m ++ [59, 32, 125]))))) 1 rfl (by simp) h2
    exact LexK.tok (R := 97 :: 32 :: (s ++ (32 :: (97 :: (tailB s m ++ [59, 32, 125]))))) ⟨1, 1, 0, 0⟩ (a_sp _) (by simp) h3
theorem lexk_pre {R : List UInt8} {ks : List (Int × List UInt8 × Int)} (h : LexK R ks) : ∃ l, lexG (preB ++ R) 0 = .ok l ∧ l.map T4.key = preT.map T4.key ++ ks := by
  obtain ⟨ts, h1, h2⟩ := h 11
  refine ⟨preT ++ ts, ?_, by rw [List.map_append, h2]⟩
  rw [lex_pre, h1]; rfl
def signsB : List (List UInt8) := [[124], [94], [38], [61, 61], [60], [60, 60], [43], [42]]
theorem signs_good : ∀ s ∈ signsB, GoodS s ∧ SignB s ∧ s ≠ [] ∧ s.length ≤ 2 := by
  intro s hs
  simp only [signsB, List.mem_cons, List.not_mem_nil, or_false] at hs
  rcases hs with rfl | rfl | rfl | rfl | rfl | rfl | rfl | rfl <;> exact ⟨by unfold GoodS; decide, fun _ => rfl, by decide, by decide⟩
theorem eq_sign : SignB [61] := fun _ => rfl
theorem row_h (s : List UInt8) : ∀ m : Nat, ndH (rowN s m) ≤ m + 1
  | 0 => by simp [rowN, nmA, ndH, ndsH]
  | m + 1 => by
    have := row_h s m
    have h0 : ndH nmA = 1 := rfl
    simp only [rowN, ndH, ndsH, h0]
    omega
theorem set_h : ∀ m : Nat, ndH (setN m) ≤ m + 1
  | 0 => by simp [setN, nmA, ndH, ndsH]
  | m + 1 => by
    have := set_h m
    have h0 : ndH nmA = 1 := rfl
    simp only [setN, Nd.of, ndH, ndsH, h0]
    omega
theorem fn_h (x : Nd) : ndH (Nd.of 23 [fnN [Nd.of 12 [x]]]) ≤ ndH x + 4 := by
  simp only [Nd.of, fnN, ndH, ndsH]; omega
theorem tailB_len (s : List UInt8) (hs : s.length ≤ 2) : ∀ m : Nat, (tailB s m).length ≤ 5 * m
  | 0 => Nat.le_refl _
  | m + 1 => by
    have := tailB_len s hs m
    simp only [tailB, List.length_cons, List.length_append]
    omega
theorem row_parse {s : List UInt8} (hs : s ∈ signsB) (m : Nat) (hm : m ≤ 31) : ∃ r, parseP (preB ++ (rowB s m ++ [59, 32, 125])) = .ok (Nd.of 23 [fnN [Nd.of 12 [rowN s m]]]) r := by
  obtain ⟨h1, h2, h3, h4⟩ := signs_good s hs
  obtain ⟨r, hu⟩ := fn_unit (X := tailT s m) (row_expr (R := 56) h1 m)
  have hl := tailB_len s h4 m
  rw [rowB_eq]
  refine parse_keys0 ?_ (lexk_pre (lexk_row s h2 h3 m)) (preT ++ (tA :: (tailT s m ++ endsT))) ?_ hu ?_
  · simp [preB]; omega
  · simp only [List.map_append, List.map_cons, List.cons_append, List.append_assoc]; rfl
  · have := fn_h (rowN s m); have := row_h s m; omega
theorem set_parse (m : Nat) (hm : m ≤ 31) : ∃ r, parseP (preB ++ (rowB [61] m ++ [59, 32, 125])) = .ok (Nd.of 23 [fnN [Nd.of 12 [setN m]]]) r := by
  obtain ⟨r, hu⟩ := fn_unit (X := tailT [61] m) (set_expr m 57 (by omega))
  have hl := tailB_len [61] (by decide) m
  rw [rowB_eq]
  refine parse_keys0 ?_ (lexk_pre (lexk_row [61] eq_sign (by decide) m)) (preT ++ (tA :: (tailT [61] m ++ endsT))) ?_ hu ?_
  · simp [preB]; omega
  · simp only [List.map_append, List.map_cons, List.cons_append, List.append_assoc]; rfl
  · have := fn_h (setN m); have := set_h m; omega
theorem first_fn (x : Nd) : firstN (Nd.of 23 [fnN [Nd.of 12 [x]]]) = some x := rfl
end Go.Proofs.YtkbplcfehllbjaaGreatDoor
