/- Plain: what lex makes of the bytes at one place: a word, a number, a character, a sign, a comment. -/
import Derived.Test.YthbhlmkgbinegaaDoorA3
import Derived.Test.YthbhlmkgbinegaaDoorShelf
namespace Go.Proofs.YthbhlmkgbinegaaDoor
/-- A token's kind, its length, its number; an error's number. -/
structure Tk where
  kind : Int
  len : Nat
  val : Int
  err : Int
deriving DecidableEq
def Tk.bad (e : Int) : Tk := ⟨0, 0, 0, e⟩
def hexD (l : List UInt8) : Nat := if Lib.hasPrefix l [48, 120] = true then min (pfx isHx (l.drop 2)) 16 else 0
def isName (l : List UInt8) : Bool := l ≠ [] && decide (l.length ≤ 24) && !isDig ((l.headD 0).toNat : Nat) && decide (pfx isWb l = l.length) && !isKw l
def wordR (l : List UInt8) : Tk := if 24 < pfx isWb l then Tk.bad 5 else if isKw (l.take (pfx isWb l)) = true then ⟨2, pfx isWb l, 0, 0⟩ else ⟨1, pfx isWb l, 0, 0⟩
def charR (l : List UInt8) : Tk := match l with
  | _ :: b :: c :: _ => if c = 39 ∧ isPl b.toNat = true then ⟨3, 3, b.toNat, 0⟩ else Tk.bad 2
  | _ => Tk.bad 2
def digV (c : Nat) : Nat := if c ≤ 57 then c - 48 else if 97 ≤ c then c - 97 + 10 else c - 65 + 10
def valN (base : Nat) (l : List UInt8) : Nat := l.foldl (fun n b => n * base + digV b.toNat) 0
structure Sp where
  start : Nat
  stop : Nat
  base : Nat
def spanR (l : List UInt8) : Sp := if l.headD 0 ≠ 48 then ⟨0, pfx isDig l, 10⟩ else if 0 < hexD l then ⟨2, 2 + hexD l, 16⟩ else ⟨0, 1, 10⟩
def numberR (l : List UInt8) : Tk :=
  if (spanR l).stop < l.length ∧ isWb ((l.getD (spanR l).stop 0).toNat : Nat) = true then Tk.bad 2
  else if 9223372036854775808 ≤ valN (spanR l).base ((l.take (spanR l).stop).drop (spanR l).start) then Tk.bad 5
  else ⟨3, (spanR l).stop, valN (spanR l).base ((l.take (spanR l).stop).drop (spanR l).start), 0⟩
def signR (l : List UInt8) : Tk := match opL.find? (fun o => Lib.hasPrefix l o) with
  | some o => ⟨4, o.length, 0, 0⟩
  | none => Tk.bad 2
end Go.Proofs.YthbhlmkgbinegaaDoor
