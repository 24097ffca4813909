/-
  Plain facts: what a text in quotes is, and what a quoted text says.
-/
import Derived.Test.YticjilkcobpcjaaDoorZEnc
set_option linter.unusedSimpArgs false
set_option linter.unusedVariables false
namespace Go.Proofs.YticjilkcobpcjaaDoor
open Go.Lib

/-- a hexadecimal digit -/
def hxD (n : Nat) : UInt8 := UInt8.ofNat (if n < 10 then 48 + n else 87 + n)
/-- the hexadecimal digits of a number -/
def hxF : Nat → Nat → List UInt8
  | 0, _ => []
  | f + 1, n => if n = 0 then [] else hxF f (n / 16) ++ [hxD (n % 16)]
def hxL (n : Nat) : List UInt8 := hxF n n
/-- is a rune one that nobody sees? -/
def hidN (r : Nat) : Bool := decide ((128 ≤ r ∧ r ≤ 159) ∨ r = 173 ∨ (8203 ≤ r ∧ r ≤ 8207) ∨ (8232 ≤ r ∧ r ≤ 8239) ∨ (8288 ≤ r ∧ r ≤ 8303) ∨ (57344 ≤ r ∧ r ≤ 63743) ∨ (65024 ≤ r ∧ r ≤ 65039) ∨ r = 65279 ∨ 917504 ≤ r)
/-- an escape of two signs -/
def ltN (r : Nat) : Nat := if r = 34 then 34 else if r = 92 then 92 else if r = 10 then 110 else if r = 13 then 114 else if r = 9 then 116 else 0
/-- may it not stand as itself? -/
def rawB (s : ByteArray) (i : Nat) : Bool := decide (rn s i < 32) || decide (rn s i = 127) || !okR s i
def bxL (b : Nat) : List UInt8 := [92, 120, hxD (b / 16), hxD (b % 16)]
def uxL (r : Nat) : List UInt8 := 92 :: 117 :: 123 :: (hxL r ++ [125])
/-- what stands of the rune at a place -/
def qP (s : ByteArray) (i : Nat) : List UInt8 :=
  if ltN (rn s i) ≠ 0 then [92, UInt8.ofNat (ltN (rn s i))]
  else if rawB s i then bxL (by_ s i)
  else if hidN (rn s i) then uxL (rn s i)
  else encL (rn s i : Nat)
def qL (s : ByteArray) (l : List Nat) : List UInt8 := l.flatMap (qP s)
theorem qL_snoc (s : ByteArray) (l : List Nat) (i : Nat) : qL s (l ++ [i]) = qL s l ++ qP s i := by simp [qL]
/-- A TEXT IN QUOTES -/
def qT (s : ByteArray) : ByteArray := ofL (34 :: (qL s (allL s) ++ [34]))

/-- a hexadecimal digit's number; 16: it is none -/
def dgV (b : Nat) : Nat := if 48 ≤ b ∧ b ≤ 57 then b - 48 else if 97 ≤ b ∧ b ≤ 102 then b - 87 else 16
/-- the digits at a place: their number, and how many there are, at most so many -/
def hxR (s : ByteArray) (i : Nat) : Nat → Nat → Nat → Nat × Nat
  | 0, n, k => (n, k)
  | f + 1, n, k => if i + k < s.size ∧ dgV (by_ s (i + k)) < 16 then hxR s i f (16 * n + dgV (by_ s (i + k))) (k + 1) else (n, k)
def byteE (s : ByteArray) (i : Nat) : Option (List UInt8 × Nat) :=
  if (hxR s i 2 0 0).2 = 2 then some ([UInt8.ofNat (hxR s i 2 0 0).1], 4) else none
def runeE (s : ByteArray) (i : Nat) : Option (List UInt8 × Nat) :=
  let n := (hxR s i 6 0 0).1
  let k := (hxR s i 6 0 0).2
  if k = 0 ∨ (1 < k ∧ by_ s i = 48) then none
  else if i + k < s.size ∧ by_ s (i + k) = 125 ∧ Utf8.valid (n : Int) = true then some (encL (n : Int), k + 4) else none
/-- what the escape says that begins at a place -/
def escE (s : ByteArray) (i : Nat) : Option (List UInt8 × Nat) :=
  if i + 1 < s.size then
    if by_ s (i + 1) = 34 then some ([34], 2) else if by_ s (i + 1) = 92 then some ([92], 2)
    else if by_ s (i + 1) = 110 then some ([10], 2) else if by_ s (i + 1) = 114 then some ([13], 2) else if by_ s (i + 1) = 116 then some ([9], 2)
    else if by_ s (i + 1) = 120 then byteE s (i + 2)
    else if by_ s (i + 1) = 117 ∧ i + 2 < s.size ∧ by_ s (i + 2) = 123 then runeE s (i + 3)
    else none
  else none
/-- what a quoted text says behind its first quote -/
def rdF (s : ByteArray) : Nat → Nat → List UInt8 → List UInt8 × Nat × Bool
  | 0, i, acc => ([], s.size, false)
  | f + 1, i, acc =>
    if i < s.size then
      if by_ s i = 34 then (acc, i + 1, true)
      else if by_ s i = 92 then match escE s i with
        | none => ([], i, false)
        | some (x, n) => rdF s f (i + n) (acc ++ x)
      else if rawB s i then ([], i, false)
      else rdF s f (i + wd s i) (acc ++ encL (rn s i : Nat))
    else ([], s.size, false)
def rdE (s : ByteArray) (i : Nat) : List UInt8 × Nat × Bool := rdF s (s.size - i) i []
def uqOk (s : ByteArray) : Bool := decide (0 < s.size) && decide (by_ s 0 = 34) && (rdE s 1).2.2 && decide ((rdE s 1).2.1 = s.size)
def uqT (s : ByteArray) : ByteArray := if uqOk s then ofL (rdE s 1).1 else ofL []
def uqN (s : ByteArray) : Nat := if uqOk s then 0 else if 0 < s.size ∧ by_ s 0 = 34 then (rdE s 1).2.1 else 0
def uqE (s : ByteArray) : Nat := if uqOk s then 0 else 18

end Go.Proofs.YticjilkcobpcjaaDoor
