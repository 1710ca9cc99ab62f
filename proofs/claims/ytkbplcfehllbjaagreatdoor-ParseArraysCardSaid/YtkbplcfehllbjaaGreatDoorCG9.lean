/- Plain: a text by its tokens' kinds, texts and values; a declared name with brackets. -/
import Derived.Test.YtkbplcfehllbjaaGreatDoorMkTop
namespace Go.Proofs.YtkbplcfehllbjaaGreatDoor
def LexK (R : List UInt8) (ks : List (Int × List UInt8 × Int)) : Prop := ∀ a, ∃ ts, lexG R a = .ok ts ∧ ts.map T4.key = ks
theorem LexK.nil : LexK [] [] := fun a => ⟨[], lexG_nil a, rfl⟩
theorem LexK.tok {R : List UInt8} {ks : List (Int × List UInt8 × Int)} (t : Tk) (h : stepR R = .tok t) (h0 : R ≠ []) (hk : LexK (R.drop t.len) ks) : LexK R ((t.kind, R.take t.len, t.val) :: ks) := fun a => by
  obtain ⟨ts, h1, h2⟩ := hk (a + t.len)
  refine ⟨_, by rw [lex_tok1 h h0, h1]; rfl, ?_⟩
  simp only [List.map_cons, h2]; rfl
theorem LexK.skip {R : List UInt8} {ks : List (Int × List UInt8 × Int)} (n : Nat) (h : stepR R = .skip n) (h0 : R ≠ []) (hk : LexK (R.drop n) ks) : LexK R ks := fun a => by
  obtain ⟨ts, h1, h2⟩ := hk (a + n)
  exact ⟨ts, by rw [lex_skip1 h h0, h1], h2⟩
theorem parse_keys0 {s : List UInt8} {ks : List (Int × List UInt8 × Int)} (hl : s.length ≤ 20000) (h : ∃ l, lexG s 0 = .ok l ∧ l.map T4.key = ks) (ts : List T4) (hts : ts.map T4.key = ks ++ [(0, [], 0)]) {n : Nd} {r : List T4} (hu : unitP ts = .ok n r) (hd : ndH n ≤ 250) : ∃ r', parseP s = .ok n r' := by
  obtain ⟨l, h1, h2⟩ := h
  rw [parseP_tok (tokensR_of h1 hl)]
  have hA := alike_text.unit ts (l ++ [⟨0, s.length, [], 0⟩]) (by rw [hts, List.map_append, h2]; rfl)
  rw [hu] at hA
  cases h3 : unitP (l ++ [⟨0, s.length, [], 0⟩]) with
  | err p e => rw [h3] at hA; exact hA.elim
  | ok m r2 =>
    rw [h3] at hA
    obtain ⟨rfl, _⟩ := hA
    exact ⟨r2, by rw [finP_ok, if_neg (by omega)]⟩
theorem parse_keys {s : List UInt8} {ks : List (Int × List UInt8 × Int)} (hl : s.length ≤ 20000) (h : LexK s ks) (ts : List T4) (hts : ts.map T4.key = ks ++ [(0, [], 0)]) {n : Nd} {r : List T4} (hu : unitP ts = .ok n r) (hd : ndH n ≤ 250) : ∃ r', parseP s = .ok n r' :=
  parse_keys0 hl (h 0) ts hts hu hd
def ptrs : Nat → Ty → Ty
  | 0, t => t
  | k + 1, t => (ptrs k t).ptr
theorem ptrs_in : ∀ (k : Nat) (t : Ty), ptrs k t.ptr = (ptrs k t).ptr
  | 0, _ => rfl
  | k + 1, t => by show (ptrs k t.ptr).ptr = _; rw [ptrs_in k t]; rfl
def starT : T4 := ⟨4, 0, [42], 0⟩
def digB (d : Nat) : UInt8 := UInt8.ofNat (48 + d)
def sizeT (d : Nat) : List T4 := [⟨4, 0, [91], 0⟩, ⟨3, 0, [digB d], d⟩, ⟨4, 0, [93], 0⟩]
def sizeB (d : Nat) : List UInt8 := [91, digB d, 93]
theorem stars_rep : ∀ (k : Nat) (t : Ty) (a : T4) (X : List T4), a.text ≠ [42] → starsP (List.replicate k starT ++ a :: X) t = (ptrs k t, a :: X)
  | 0, t, a, X, h => by
    show starsP (a :: X) t = _
    unfold starsP; rw [if_neg h]; rfl
  | k + 1, t, a, X, h => by
    show starsP (starT :: (List.replicate k starT ++ a :: X)) t = _
    unfold starsP
    rw [if_pos (show starT.text = [42] from rfl), stars_rep k t.ptr a X h, ptrs_in]; rfl
theorem sizes_flat : ∀ (ds : List Nat) (X : List T4), (∀ d ∈ ds, 1 ≤ d ∧ d ≤ 9) → sizesP (ds.flatMap sizeT ++ ⟨4, 0, [59], 0⟩ :: ⟨0, 0, [], 0⟩ :: X) = .ok (ds.map fun (d : Nat) => (d : Int)) (⟨4, 0, [59], 0⟩ :: ⟨0, 0, [], 0⟩ :: X)
  | [], X, _ => by
    show sizesP (⟨4, 0, [59], 0⟩ :: ⟨0, 0, [], 0⟩ :: X) = _
    unfold sizesP
    rw [if_neg (by simp)]; rfl
  | d :: ds, X, h => by
    have ih := sizes_flat ds X (fun x hx => h x (List.mem_cons_of_mem _ hx))
    obtain ⟨h1, h2⟩ := h d (List.mem_cons_self ..)
    show sizesP (⟨4, 0, [91], 0⟩ :: ⟨3, 0, [digB d], d⟩ :: ⟨4, 0, [93], 0⟩ :: (ds.flatMap sizeT ++ ⟨4, 0, [59], 0⟩ :: ⟨0, 0, [], 0⟩ :: X)) = _
    unfold sizesP
    rw [if_pos rfl, if_neg (by dsimp only; omega), if_pos rfl]
    dsimp only
    rw [if_pos rfl, ih]
    rfl
def arrT (k : Nat) (ds : List Nat) : List T4 := ⟨2, 0, [105, 110, 116], 0⟩ :: (List.replicate k starT ++ ⟨1, 0, [97], 0⟩ :: (ds.flatMap sizeT ++ [⟨4, 0, [59], 0⟩, ⟨0, 0, [], 0⟩]))
def arrTy (k : Nat) (ds : List Nat) : Ty := arraysT (ds.map fun (d : Nat) => (d : Int)) (ptrs k (.mk 3 0 [] []))
def arrN (k : Nat) (ds : List Nat) : Nd := Nd.of 23 [.mk 21 [97] 0 (arrTy k ds) []]
theorem isP40 (ds : List Nat) : isP [40] (ds.flatMap sizeT ++ [⟨4, 0, [59], 0⟩, ⟨0, 0, [], 0⟩]) = false := by
  cases ds <;> rfl
theorem arr_unit (k : Nat) (ds : List Nat) (h : ∀ d ∈ ds, 1 ≤ d ∧ d ≤ 9) : ∃ r, unitP (arrT k ds) = .ok (arrN k ds) r := by
  have hi : itemP (recAt 60) (recAt 59) (arrT k ds) = .ok (.mk 21 [97] 0 (arrTy k ds) []) [⟨0, 0, [], 0⟩] := by
    unfold itemP arrT
    show (PR.ok (Ty.mk 3 0 [] []) (List.replicate k starT ++ ⟨1, 0, [97], 0⟩ :: (ds.flatMap sizeT ++ [⟨4, 0, [59], 0⟩, ⟨0, 0, [], 0⟩]))).bind _ = _
    rw [PR.bind_ok, if_neg (by intro h; exact h.1 rfl), stars_rep _ _ _ _ (by simp)]
    dsimp only
    rw [if_neg (by intro h; have h2 := h.2; rw [List.tail_cons, isP40] at h2; cases h2)]
    unfold declaredP
    rw [if_neg (by intro h; cases h)]
    have hn : ∀ Z : List T4, nameP (⟨1, 0, [97], 0⟩ :: Z) = .ok [97] Z := fun _ => rfl
    rw [hn, PR.bind_ok, sizes_flat ds [] h]
    rfl
  refine ⟨[⟨0, 0, [], 0⟩], ?_⟩
  unfold unitP
  have hlen : (arrT k ds).length + 1 = ((arrT k ds).length - 1) + 1 + 1 := by unfold arrT; simp
  rw [hlen, loop_succ, uS, if_neg (by unfold arrT; show ¬ (2 : Int) = 0; decide), hi]
  rfl
def arrB (k : Nat) (ds : List Nat) : List UInt8 := [105, 110, 116, 32] ++ (List.replicate k 42 ++ ([32, 97] ++ (ds.flatMap sizeB ++ [59])))
theorem dig_step (d : Nat) (h1 : 1 ≤ d) (h2 : d ≤ 9) (Z : List UInt8) : stepR (digB d :: 93 :: Z) = .tok ⟨3, 1, d, 0⟩ := by
  have e1 : stepR (49 :: 93 :: Z) = .tok ⟨3, 1, 1, 0⟩ := by kernel_rfl
  have e2 : stepR (50 :: 93 :: Z) = .tok ⟨3, 1, 2, 0⟩ := by kernel_rfl
  have e3 : stepR (51 :: 93 :: Z) = .tok ⟨3, 1, 3, 0⟩ := by kernel_rfl
  have e4 : stepR (52 :: 93 :: Z) = .tok ⟨3, 1, 4, 0⟩ := by kernel_rfl
  have e5 : stepR (53 :: 93 :: Z) = .tok ⟨3, 1, 5, 0⟩ := by kernel_rfl
  have e6 : stepR (54 :: 93 :: Z) = .tok ⟨3, 1, 6, 0⟩ := by kernel_rfl
  have e7 : stepR (55 :: 93 :: Z) = .tok ⟨3, 1, 7, 0⟩ := by kernel_rfl
  have e8 : stepR (56 :: 93 :: Z) = .tok ⟨3, 1, 8, 0⟩ := by kernel_rfl
  have e9 : stepR (57 :: 93 :: Z) = .tok ⟨3, 1, 9, 0⟩ := by kernel_rfl
  have : d = 1 ∨ d = 2 ∨ d = 3 ∨ d = 4 ∨ d = 5 ∨ d = 6 ∨ d = 7 ∨ d = 8 ∨ d = 9 := by omega
  rcases this with rfl | rfl | rfl | rfl | rfl | rfl | rfl | rfl | rfl
  · exact e1
  · exact e2
  · exact e3
  · exact e4
  · exact e5
  · exact e6
  · exact e7
  · exact e8
  · exact e9
theorem open_step (Z : List UInt8) : stepR (91 :: Z) = .tok ⟨4, 1, 0, 0⟩ := by kernel_rfl
theorem close_step (Z : List UInt8) : stepR (93 :: Z) = .tok ⟨4, 1, 0, 0⟩ := by kernel_rfl
theorem lexk_size1 (d : Nat) (h1 : 1 ≤ d) (h2 : d ≤ 9) {Z : List UInt8} {ks : List (Int × List UInt8 × Int)} (h : LexK Z ks) : LexK (91 :: digB d :: 93 :: Z) ((4, [91], 0) :: (3, [digB d], (d : Int)) :: (4, [93], 0) :: ks) := by
  have h3 : LexK (93 :: Z) ((4, [93], 0) :: ks) := LexK.tok ⟨4, 1, 0, 0⟩ (close_step Z) (by simp) h
  have h4 : LexK (digB d :: 93 :: Z) ((3, [digB d], (d : Int)) :: (4, [93], 0) :: ks) := LexK.tok ⟨3, 1, d, 0⟩ (dig_step d h1 h2 Z) (by simp) h3
  exact LexK.tok ⟨4, 1, 0, 0⟩ (open_step _) (by simp) h4
theorem semi_lex : LexK [59] [(4, [59], 0)] := by
  have h : stepR [59] = .tok ⟨4, 1, 0, 0⟩ := by kernel_rfl
  exact LexK.tok ⟨4, 1, 0, 0⟩ h (by simp) LexK.nil
theorem lexk_sizes (ds : List Nat) (h : ∀ d ∈ ds, 1 ≤ d ∧ d ≤ 9) : LexK (ds.flatMap sizeB ++ [59]) ((ds.flatMap sizeT).map T4.key ++ [(4, [59], 0)]) := by
  induction ds with
  | nil => exact semi_lex
  | cons d ds ih =>
    obtain ⟨h1, h2⟩ := h d (List.mem_cons_self ..)
    exact lexk_size1 d h1 h2 (ih (fun x hx => h x (List.mem_cons_of_mem _ hx)))
theorem lexk_a (X : List UInt8) (ds : List Nat) (ks : List (Int × List UInt8 × Int)) (hX : X = ds.flatMap sizeB ++ [59]) (h : LexK X ks) : LexK (97 :: X) ((1, [97], 0) :: ks) := by
  have hs : stepR (97 :: X) = .tok ⟨1, 1, 0, 0⟩ := by
    cases ds with
    | nil => subst hX; rfl
    | cons d ds => subst hX; rfl
  exact LexK.tok (R := 97 :: X) ⟨1, 1, 0, 0⟩ hs (by simp) h
theorem lexk_stars (X : List UInt8) (ks : List (Int × List UInt8 × Int)) (h : LexK (32 :: X) ks) : ∀ k : Nat, LexK (List.replicate k 42 ++ 32 :: X) ((List.replicate k starT).map T4.key ++ ks)
  | 0 => h
  | k + 1 => by
    refine LexK.tok (R := 42 :: (List.replicate k 42 ++ 32 :: X)) ⟨4, 1, 0, 0⟩ ?_ (by simp) (lexk_stars X ks h k)
    cases k <;> rfl
theorem arr_lex (k : Nat) (ds : List Nat) (h : ∀ d ∈ ds, 1 ≤ d ∧ d ≤ 9) : ∃ ks, LexK (arrB k ds) ks ∧ (arrT k ds).map T4.key = ks ++ [(0, [], 0)] := by
  have h1 := lexk_a _ ds _ rfl (lexk_sizes ds h)
  have h2 := LexK.skip (R := 32 :: 97 :: (ds.flatMap sizeB ++ [59])) 1 rfl (by simp) h1
  have h3 := lexk_stars _ _ h2 k
  have h4 := LexK.skip (R := 32 :: (List.replicate k 42 ++ 32 :: 97 :: (ds.flatMap sizeB ++ [59]))) 1 rfl (by simp) h3
  have h5 : LexK (105 :: 110 :: 116 :: 32 :: (List.replicate k 42 ++ 32 :: 97 :: (ds.flatMap sizeB ++ [59]))) ((2, [105, 110, 116], 0) :: _) := LexK.tok ⟨2, 3, 0, 0⟩ rfl (by simp) (show LexK (32 :: (List.replicate k 42 ++ 32 :: 97 :: (ds.flatMap sizeB ++ [59]))) _ from h4)
  refine ⟨_, h5, ?_⟩
  unfold arrT
  simp only [List.map_cons, List.map_append, List.map_nil, List.cons_append, List.append_assoc, List.nil_append]
  rfl
theorem arr_parse (k : Nat) (hk : k < 20) (ds : List Nat) (hl : ds.length ≤ 10) (h : ∀ d ∈ ds, 1 ≤ d ∧ d ≤ 9) : ∃ r, parseP (arrB k ds) = .ok (arrN k ds) r := by
  obtain ⟨ks, h1, h2⟩ := arr_lex k ds h
  obtain ⟨r, h3⟩ := arr_unit k ds h
  refine parse_keys ?_ h1 _ h2 h3 ?_
  · have : ∀ l : List Nat, (l.flatMap sizeB).length = l.length * 3 := by
      intro l
      induction l with
      | nil => rfl
      | cons a l ih => rw [List.flatMap_cons, List.length_append, ih]; simp [sizeB]; omega
    unfold arrB
    simp only [List.length_append, List.length_replicate, this, List.length_cons, List.length_nil]
    omega
  · show ndH (arrN k ds) ≤ 250
    unfold arrN Nd.of
    simp [ndH, ndsH]
end Go.Proofs.YtkbplcfehllbjaaGreatDoor
