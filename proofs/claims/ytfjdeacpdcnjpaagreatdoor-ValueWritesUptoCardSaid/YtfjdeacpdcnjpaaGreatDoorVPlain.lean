/- Plain facts about values and their texts: a value as a tree, how a text is read and a value written, as functions over lists of bytes. It imports nothing of the program. -/
import Derived.Lib.AtoiAll
import Derived.Lib.ItoaNum
import Derived.Lib.RuneBytes
namespace Go.Proofs.YtfjdeacpdcnjpaaGreatDoor.V
open Go.Lib

/-- A value: its sort, whether it is on, its number, its text, its parts, its keys. -/
inductive Val where
  | mk (sort : Int) (on : Bool) (n : Int) (text : List UInt8) (list : List Val) (keys : List (List UInt8))

def Val.null : Val := .mk 0 false 0 [] [] []
def Val.bool (b : Bool) : Val := .mk 1 b 0 [] [] []
def Val.num (n : Int) : Val := .mk 2 false n [] [] []
def Val.str (t : List UInt8) : Val := .mk 3 false 0 t [] []
def Val.arr (l : List Val) : Val := .mk 4 false 0 [] l []
def Val.rcd (ks : List (List UInt8)) (l : List Val) : Val := .mk 5 false 0 [] l ks

/-! ### How a text is read -/
def blank (c : UInt8) : Bool := c == 32 || c == 9 || c == 10 || c == 13
def numB (c : UInt8) : Bool := c == 45 || (48 ≤ c && c ≤ 57)
def skip (l : List UInt8) : List UInt8 := l.dropWhile blank

/-- What comes of a piece that is read: what it is, and what is left; or that it is none. -/
def number (l : List UInt8) : Option (Int × List UInt8) :=
  match atoiAll (l.takeWhile numB) with
  | .ok n => if (-9007199254740992 ≤ n ∧ n ≤ 9007199254740992) ∧ itoa n = l.takeWhile numB then some (n, l.dropWhile numB) else none
  | _ => none

def hexv (c : UInt8) : Option Nat :=
  if 48 ≤ c.toNat ∧ c.toNat ≤ 57 then some (c.toNat - 48)
  else if 97 ≤ c.toNat ∧ c.toNat ≤ 102 then some (c.toNat - 87)
  else if 65 ≤ c.toNat ∧ c.toNat ≤ 70 then some (c.toNat - 55)
  else none
def hex4 (a b c d : UInt8) : Option Nat :=
  match hexv a, hexv b, hexv c, hexv d with
  | some p, some q, some r, some s => some (((p * 16 + q) * 16 + r) * 16 + s)
  | _, _, _, _ => none
def unit : List UInt8 → Option (Nat × List UInt8)
  | a :: b :: c :: d :: r => (hex4 a b c d).map fun n => (n, r)
  | _ => none
/-- Behind the first backslash and u. -/
def scalarE (l : List UInt8) : Option (Nat × List UInt8) :=
  match unit l with
  | none => none
  | some (a, r) =>
    if a < 55296 ∨ 57344 ≤ a then some (a, r)
    else if 56320 ≤ a then none
    else match r with
      | 92 :: 117 :: r' =>
        match unit r' with
        | none => none
        | some (b, r'') => if b < 56320 ∨ 57344 ≤ b then none else some (65536 + (a - 55296) * 1024 + (b - 56320), r'')
      | _ => none
def escLetter (c : UInt8) : Option Nat :=
  if c = 34 then some 34 else if c = 92 then some 92 else if c = 47 then some 47 else if c = 98 then some 8
  else if c = 102 then some 12 else if c = 110 then some 10 else if c = 114 then some 13 else if c = 116 then some 9 else none
/-- Behind a backslash. -/
def escape : List UInt8 → Option (Nat × List UInt8)
  | [] => none
  | c :: r => if c = 117 then scalarE r else (escLetter c).map fun n => (n, r)
def quoted : Nat → List UInt8 → List UInt8 → Option (List UInt8 × List UInt8)
  | 0, _, _ => none
  | _ + 1, [], _ => none
  | f + 1, c :: r, acc =>
    if c = 34 then some (acc, r)
    else if c < 32 then none
    else if c = 92 then
      match escape r with
      | none => none
      | some (x, r') => quoted f r' (acc ++ encodeRune x)
    else quoted f r (acc ++ [c])
def quotedA (l : List UInt8) : Option (List UInt8 × List UInt8) := quoted (l.length + 1) l []
def key (l : List UInt8) : Option (List UInt8 × List UInt8) :=
  match skip l with
  | 34 :: r =>
    match quotedA r with
    | none => none
    | some (k, r') => match skip r' with
      | 58 :: r'' => some (k, r'')
      | _ => none
  | _ => none

inductive Res (α : Type) where
  | ok (a : α) (rest : List UInt8)
  | bad
  | deep

def plain (l : List UInt8) : Option (Val × List UInt8) :=
  if [110, 117, 108, 108].isPrefixOf l then some (.null, l.drop 4)
  else if [102, 97, 108, 115, 101].isPrefixOf l then some (.bool false, l.drop 5)
  else if [116, 114, 117, 101].isPrefixOf l then some (.bool true, l.drop 4)
  else match l with
    | 34 :: r => (quotedA r).map fun p => (.str p.1, p.2)
    | _ => (number l).map fun p => (.num p.1, p.2)

mutual
def value : Nat → Nat → List UInt8 → Res Val
  | 0, _, _ => .bad
  | f + 1, d, l0 =>
    match skip l0 with
    | 91 :: r =>
      if d = 20 then .deep
      else match skip r with
        | 93 :: r' => .ok (.arr []) (skip r')
        | r1 => match items f (d + 1) r1 [] with
          | .ok v r' => .ok (.arr v) (skip r')
          | .bad => .bad
          | .deep => .deep
    | 123 :: r =>
      if d = 20 then .deep
      else match skip r with
        | 125 :: r' => .ok (.rcd [] []) (skip r')
        | r1 => match fields f (d + 1) r1 [] [] with
          | .ok p r' => .ok (.rcd p.1 p.2) (skip r')
          | .bad => .bad
          | .deep => .deep
    | l => match plain l with
      | some (v, r) => .ok v (skip r)
      | none => .bad
def items : Nat → Nat → List UInt8 → List Val → Res (List Val)
  | 0, _, _, _ => .bad
  | f + 1, d, l, acc =>
    match value f d l with
    | .bad => .bad
    | .deep => .deep
    | .ok v r => match r with
      | 93 :: r' => .ok (acc ++ [v]) r'
      | 44 :: r' => items f d r' (acc ++ [v])
      | _ => .bad
def fields : Nat → Nat → List UInt8 → List (List UInt8) → List Val → Res (List (List UInt8) × List Val)
  | 0, _, _, _, _ => .bad
  | f + 1, d, l, ks, vs =>
    match key l with
    | none => .bad
    | some (k, r0) =>
      if k ∈ ks then .bad
      else match value f d r0 with
        | .bad => .bad
        | .deep => .deep
        | .ok v r => match r with
          | 125 :: r' => .ok (ks ++ [k], vs ++ [v]) r'
          | 44 :: r' => fields f d r' (ks ++ [k]) (vs ++ [v])
          | _ => .bad
end

/-- Read, of a right text: the value, or the error's number. -/
def readP (l : List UInt8) : Except Int Val :=
  match value (2 * l.length + 1) 0 l with
  | .bad => .error 21
  | .deep => .error 22
  | .ok v [] => .ok v
  | .ok _ (_ :: _) => .error 21

/-! ### How a value is written -/
def hexd (n : Nat) : UInt8 := if n < 10 then UInt8.ofNat (48 + n) else UInt8.ofNat (87 + n)
def quoteB (c : UInt8) : List UInt8 :=
  if c < 32 then [92, 117, 48, 48, hexd (c.toNat / 16), hexd (c.toNat % 16)]
  else if c = 34 ∨ c = 92 then [92, c]
  else [c]
def quoteT (t : List UInt8) : List UInt8 := 34 :: (t.flatMap quoteB ++ [34])
mutual
def write : Val → List UInt8
  | .mk sort on n t l ks =>
    if sort = 0 then [110, 117, 108, 108]
    else if sort = 1 then (if on then [116, 114, 117, 101] else [102, 97, 108, 115, 101])
    else if sort = 2 then itoa n
    else if sort = 3 then quoteT t
    else if sort = 4 then 91 :: (writeL l ++ [93])
    else if sort = 5 then 123 :: (writeR ks l ++ [125])
    else []
/-- The parts, with commas between. -/
def writeL : List Val → List UInt8
  | [] => []
  | v :: l => write v ++ writeL1 l
def writeL1 : List Val → List UInt8
  | [] => []
  | v :: l => 44 :: (write v ++ writeL1 l)
def writeR : List (List UInt8) → List Val → List UInt8
  | _, [] => []
  | ks, v :: l => quoteT (ks.headD []) ++ 58 :: (write v ++ writeR1 ks.tail l)
def writeR1 : List (List UInt8) → List Val → List UInt8
  | _, [] => []
  | ks, v :: l => 44 :: (quoteT (ks.headD []) ++ 58 :: (write v ++ writeR1 ks.tail l))
end

/-! ### What is right -/
mutual
def deepV : Val → Nat
  | .mk sort _ _ _ l _ => if sort = 4 ∨ sort = 5 then deepL l + 1 else 0
def deepL : List Val → Nat
  | [] => 0
  | v :: l => max (deepV v) (deepL l)
end
end Go.Proofs.YtfjdeacpdcnjpaaGreatDoor.V
