/-
  DigestRoots: the 64 round words, reckoned by the kernel.
-/
import Derived.Test.YthnbfldileoemaaDoorRoot
namespace Go.Proofs.YthnbfldileoemaaDoor
open Go Go.RowKit
set_option linter.unusedSimpArgs false
set_option linter.unusedVariables false
set_option maxRecDepth 1000000
set_option maxHeartbeats 4000000

theorem roots_ok : ∀ n, n < 64 → rootF ((primes64).getD n 0) (roundL.getD n 0) = true := by decide +kernel
theorem srch_ok : ∀ n : Nat, n < 64 → srch 310 1 (-1) n = (primes64.getD n 0, (n : Int)) := by decide +kernel
theorem stop_ok : ∀ n : Nat, n < 64 → primes64.getD n 0 < pwi (W (wh (primes64.getD n 0) 10 1 + 1)) 3 := by decide +kernel
theorem prime_bd : ∀ n : Nat, n < 64 → 0 ≤ primes64.getD n 0 ∧ primes64.getD n 0 ≤ 311 := by decide +kernel
theorem round_bd : ∀ n : Nat, n < 64 → 0 ≤ roundL.getD n 0 ∧ roundL.getD n 0 ≤ 4294967295 := by decide +kernel
end Go.Proofs.YthnbfldileoemaaDoor
