/-
  OUR OWN. THE DOCUMENT's READING, in plain words over lists of bytes (no Go in it): 'skip' (blanks, newlines, comments), 'word', 'str', 'truth', 'rd' (one datum, or the members of a list), 'top' (a text). A datum is told by its written text. What is wrong: its number, and how many bytes stand from its place on.
-/
import Derived.Lib.ParseIntBTie
import Derived.Lib.ItoaNum
namespace Go.Proofs.YtbgmenglfgodbaaDoor
namespace Px
open Go

def digB (c : UInt8) : Bool := decide (48 ≤ c.toNat ∧ c.toNat ≤ 57)
def wordB (c : UInt8) : Bool := decide ((97 ≤ c.toNat ∧ c.toNat ≤ 122) ∨ (48 ≤ c.toNat ∧ c.toNat ≤ 57) ∨ c.toNat = 43 ∨ c.toNat = 45 ∨ c.toNat = 42 ∨ c.toNat = 47 ∨ c.toNat = 60 ∨ c.toNat = 62 ∨ c.toNat = 61 ∨ c.toNat = 63 ∨ c.toNat = 33 ∨ c.toNat = 95 ∨ c.toNat = 46 ∨ c.toNat = 58)
def endB (c : UInt8) : Bool := decide (c.toNat = 32 ∨ c.toNat = 10 ∨ c.toNat = 40 ∨ c.toNat = 41 ∨ c.toNat = 39 ∨ c.toNat = 34 ∨ c.toNat = 59)
def strB (c : UInt8) : Bool := decide (32 ≤ c.toNat ∧ c.toNat ≤ 126 ∧ c.toNat ≠ 34 ∧ c.toNat ≠ 92)

/-- What stands behind blanks, newlines and comments ('true': inside a comment). -/
def skip : Bool → List UInt8 → List UInt8
  | _, [] => []
  | true, c :: r => if c.toNat = 10 then skip false r else skip true r
  | false, c :: r => if c.toNat = 32 ∨ c.toNat = 10 then skip false r else if c.toNat = 59 then skip true r else c :: r

/-- What is wrong (its number, and how many bytes stand from there on), or what was read, written, and what stands behind it. -/
abbrev R := Sum (Nat × Nat) (List (List UInt8) × List UInt8)

/-- A word, or a truth value, that is written t, if what stands behind it may stand there. -/
def closed (t r : List UInt8) : R :=
  match r with
  | [] => .inr ([t], [])
  | c :: r' => if endB c then .inr ([t], c :: r') else .inl (2, r'.length + 1)

def unsign (w : List UInt8) : List UInt8 :=
  match w with
  | [] => []
  | c :: r => if c.toNat = 45 then r else c :: r

def numB (w : List UInt8) : Bool := (unsign w).all digB && !(unsign w).isEmpty

def wordOf (w r : List UInt8) : R :=
  if numB w then
    match Lib.parseIntB 64 w with
    | .ok v => closed (Lib.itoa v) r
    | _ => .inl (4, w.length + r.length)
  else if 24 < w.length then .inl (4, w.length + r.length)
  else closed w r

def word (l : List UInt8) : R := wordOf (l.takeWhile wordB) (l.dropWhile wordB)

/-- Behind the sign that opens a string. -/
def str (l : List UInt8) : R :=
  match l.dropWhile strB with
  | [] => .inl (3, 0)
  | c :: r => if c.toNat = 34 then .inr ([34 :: (l.takeWhile strB ++ [34])], r) else .inl (2, r.length + 1)

/-- Behind a number sign. -/
def truth (l : List UInt8) : R :=
  match l with
  | [] => .inl (2, 1)
  | c :: r => if c.toNat = 116 then closed [35, 116] r else if c.toNat = 102 then closed [35, 102] r else .inl (2, r.length + 2)

def join : List (List UInt8) → List UInt8
  | [] => []
  | t :: r => t ++ (match r with | [] => [] | _ :: _ => 32 :: join r)

def paren (ts : List (List UInt8)) : List UInt8 := 40 :: (join ts ++ [41])

def quoteT : List UInt8 := [113, 117, 111, 116, 101]

/-- One datum ('false'), or the members of a list up to its bracket ('true'), in d lists. -/
def rd : Nat → Bool → Nat → List UInt8 → R
  | 0, _, _, _ => .inl (0, 0)
  | f + 1, true, d, l =>
    match skip false l with
    | [] => .inl (3, 0)
    | c :: r =>
      if c.toNat = 41 then .inr ([], r)
      else match rd f false d (c :: r) with
        | .inl e => .inl e
        | .inr (x, r1) => match rd f true d r1 with
          | .inl e => .inl e
          | .inr (xs, r2) => .inr (x ++ xs, r2)
  | f + 1, false, d, l =>
    match skip false l with
    | [] => .inl (3, 0)
    | c :: r =>
      if c.toNat = 40 then
        if d = 30 then .inl (4, r.length + 1)
        else match rd f true (d + 1) r with
          | .inl e => .inl e
          | .inr (xs, r1) => .inr ([paren xs], r1)
      else if c.toNat = 39 then
        if d = 30 then .inl (4, r.length + 1)
        else match rd f false (d + 1) r with
          | .inl e => .inl e
          | .inr (xs, r1) => .inr ([paren (quoteT :: xs)], r1)
      else if c.toNat = 34 then str r
      else if c.toNat = 35 then truth r
      else if wordB c then word (c :: r)
      else .inl (2, r.length + 1)

/-- All data of a text. -/
def top : Nat → List UInt8 → R
  | 0, _ => .inl (0, 0)
  | f + 1, l =>
    match skip false l with
    | [] => .inr ([], [])
    | c :: r => match rd f false 0 (c :: r) with
      | .inl e => .inl e
      | .inr (x, r1) => match top f r1 with
        | .inl e => .inl e
        | .inr (xs, r2) => .inr (x ++ xs, r2)

def lines : List (List UInt8) → List UInt8
  | [] => []
  | t :: r => t ++ 10 :: lines r

/-- What Parse answers: what is written, the error's number, the place. -/
def parse (l : List UInt8) : List UInt8 × Nat × Nat :=
  if 1200 < l.length then ([], 1, 0)
  else match top (2 * l.length + 2) l with
    | .inl (c, k) => ([], c, l.length - k)
    | .inr (ts, _) => (lines ts, 0, 0)

end Px
end Go.Proofs.YtbgmenglfgodbaaDoor
