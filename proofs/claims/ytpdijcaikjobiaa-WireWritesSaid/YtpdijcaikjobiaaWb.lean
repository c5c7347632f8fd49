/-
  A writer's numbers: the bytes.
-/
import Derived.Test.YtpdijcaikjobiaaWa
namespace Go.Proofs.Ytpdijcaikjobiaa
open Go Go.RowKit
set_option linter.unusedVariables false
set_option linter.unusedSimpArgs false
set_option maxRecDepth 100000

theorem or128 : ∀ a : Nat, a < 128 → bitsOf .or .u8 (a : Int) 128 = (a : Int) + 128 := by decide +kernel
theorem and_nat (m : Nat) (hm : m < 4294967296) : bitsOf .and .u32 (m : Int) 127 = ((m % 128 : Nat) : Int) := by
  show IntKind.u32.wrap ((BitVec.ofInt 32 (m : Int) &&& BitVec.ofInt 32 127).toNat : Int) = _
  have h : (BitVec.ofInt 32 (m : Int) &&& BitVec.ofInt 32 127).toNat = m % 128 := by
    rw [BitVec.toNat_and]
    have h1 : (BitVec.ofInt 32 (m : Int)).toNat = m := by
      rw [BitVec.toNat_ofInt]; omega
    rw [h1]
    show m &&& 127 = _
    exact Nat.and_two_pow_sub_one_eq_mod m 7
  rw [h]
  simp only [IntKind.wrap_u32']
  omega
/-- The groups of a number from the g-th on down to the first. -/
def hiG (n : Nat) : Nat → List Int
  | 0 => []
  | g + 1 => (if n / 128 ^ (g + 1) = 0 then [] else [((n / 128 ^ (g + 1) % 128 : Nat) : Int) + 128]) ++ hiG n g
/-- A number's bytes. -/
def numB (n : Nat) : List Int := hiG n 4 ++ [((n % 128 : Nat) : Int)]
theorem hiG_len (n : Nat) : ∀ g, (hiG n g).length ≤ g
  | 0 => by simp [hiG]
  | g + 1 => by
    have := hiG_len n g
    unfold hiG
    split <;> simp <;> omega
theorem numB_len (n : Nat) : (numB n).length ≤ 5 := by
  have := hiG_len n 4
  simp [numB]; omega
end Go.Proofs.Ytpdijcaikjobiaa
