/-
  DigestRoots: roots by digits, as plain functions of lists; what they come to for the 64 round words.
-/
import Derived.Test.YthnbfldileoemaaDoorKat
namespace Go.Proofs.YthnbfldileoemaaDoor
open Go Go.RowKit
set_option linter.unusedSimpArgs false
set_option linter.unusedVariables false
set_option maxRecDepth 1000000
set_option maxHeartbeats 4000000

def W (x : Int) : Int := IntKind.u64.wrap x
def pwi (x : Int) : Nat → Int
  | 0 => 1
  | i + 1 => W (pwi x i * x)
def tst (o c ai x : Int) (j : Nat) : Int := W (W (o + W (ai * (x / 2 ^ (min (16 * j) 64) % 65536))) + c)
def tin (out : List Int) (i : Nat) (ai x : Int) : Nat → List Int × Int
  | 0 => (out, 0)
  | j + 1 => ((tin out i ai x j).1.set (i + j) (tst ((tin out i ai x j).1.getD (i + j) 0) (tin out i ai x j).2 ai x j % 65536), tst ((tin out i ai x j).1.getD (i + j) 0) (tin out i ai x j).2 ai x j / 65536)
def tout (a : List Int) (x : Int) : Nat → List Int
  | 0 => zl (a.length + 6)
  | i + 1 => (tin (tout a x i) i (a.getD i 0) x 6).1
def tmF (a : List Int) (x : Int) : List Int := tout a x a.length
def lsi (x : Int) : Nat → List Int
  | 0 => [1]
  | i + 1 => tmF (lsi x i) x
/-- From place i - 1 down: is the first one above? -/
def abF (a b : List Int) : Nat → Bool
  | 0 => false
  | i + 1 => if a.getD i 0 != b.getD i 0 then decide (a.getD i 0 > b.getD i 0) else abF a b i
def lsF (x p : Int) : Bool := !(abF (lsi x 3) (zl 6 ++ [p]) ((lsi x 3).length + 7))
/-- The whole part of a root. -/
def wh (p : Int) : Nat → Int → Int
  | 0, n => n
  | f + 1, n => if pwi (W (n + 1)) 3 ≤ p then wh p f (W (n + 1)) else n
def loF (n w : Int) : Int := bitsOf .or .u64 (W (n * 4294967296)) w
def rootF (p w : Int) : Bool := lsF (loF (wh p 10 1) w) p && !(lsF (W (loF (wh p 10 1) w + 1)) p)
def tr (p : Int) : Nat → Int → Bool → Bool
  | 0, _, acc => acc
  | f + 1, d, acc => if W (d * d) ≤ p then tr p f (d + 1) (acc && (p % d != 0)) else acc
def isP (p : Int) : Bool := tr p 18 2 true
def srch : Nat → Int → Int → Int → Int × Int
  | 0, p, s, _ => (p, s)
  | f + 1, p, s, n => if s < n then srch f (p + 1) (if isP (p + 1) then s + 1 else s) n else (p, s)
def primes64 : List Int := [2, 3, 5, 7, 11, 13, 17, 19, 23, 29, 31, 37, 41, 43, 47, 53, 59, 61, 67, 71, 73, 79, 83, 89, 97, 101, 103, 107, 109, 113, 127, 131, 137, 139, 149, 151, 157, 163, 167, 173, 179, 181, 191, 193, 197, 199, 211, 223, 227, 229, 233, 239, 241, 251, 257, 263, 269, 271, 277, 281, 283, 293, 307, 311]
end Go.Proofs.YthnbfldileoemaaDoor
