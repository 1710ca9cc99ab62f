/- Plain: the text of a source's tokens is read as the source. -/
import Derived.Test.YtkbplcfehllbjaaGreatDoorMkTop
import Derived.Test.YtkbplcfehllbjaaGreatDoorCWX
namespace Go.Proofs.YtkbplcfehllbjaaGreatDoor
theorem place_key : ∀ (ts : List T4) (a : Nat), (place a ts).map T4.key = ts.map T4.key
  | [], _ => rfl
  | t :: r, a => by
    simp only [place, List.map_cons, place_key r]
    rfl
/-- What a source and the text of its tokens are read as. -/
theorem parse_text {s : List UInt8} {l : List T4} (h : tokensR s = .ok l) (ht : (txt l).length ≤ 20000) :
    match parseP s with
    | .ok n _ => ∃ r, parseP (txt l) = .ok n r
    | .err _ e => ∃ q, parseP (txt l) = .err q e := by
  rw [parseP_tok h, parseP_tok (back_ok h ht)]
  have hA := alike_text.unit (l ++ [⟨0, s.length, [], 0⟩]) (place 0 l ++ [⟨0, (txt l).length, [], 0⟩]) (by
    rw [List.map_append, List.map_append, place_key]; rfl)
  cases h1 : unitP (l ++ [⟨0, s.length, [], 0⟩]) with
  | err p e =>
    rw [h1] at hA
    cases h2 : unitP (place 0 l ++ [⟨0, (txt l).length, [], 0⟩]) with
    | ok n r => rw [h2] at hA; exact hA.elim
    | err q f =>
      rw [h2] at hA
      exact ⟨q, by unfold finP; rw [← hA.2]⟩
  | ok n r =>
    rw [h1] at hA
    cases h2 : unitP (place 0 l ++ [⟨0, (txt l).length, [], 0⟩]) with
    | err q f => rw [h2] at hA; exact hA.elim
    | ok m r' =>
      rw [h2] at hA
      obtain ⟨rfl, _⟩ := hA
      rw [finP_ok, finP_ok]
      by_cases hd : 250 < ndH n
      · rw [if_pos hd, if_pos hd]; exact ⟨_, rfl⟩
      · rw [if_neg hd, if_neg hd]; exact ⟨_, rfl⟩
end Go.Proofs.YtkbplcfehllbjaaGreatDoor
