/-
  Numbers of four words: the machine's sum and difference of words, plus and minus, as plain functions.
-/
import Derived.Test.YtdokbnohlpbfbaaDoorXop
import Derived.Test.YtdokbnohlpbfbaaDoorTab
import Derived.Shelf.Spec.BitsCarry
namespace Go.Proofs.YtdokbnohlpbfbaaDoor
open Go Go.RowKit
set_option linter.unusedSimpArgs false
set_option linter.unusedVariables false
set_option maxRecDepth 100000
set_option maxHeartbeats 2000000

theorem wrapU64 (n : Int) : IntKind.u64.wrap n = n % 18446744073709551616 := by simp [IntKind.wrap, IntKind.bits, IntKind.signed]
/-- A word. -/
def Wd (x : Int) : Prop := 0 ≤ x ∧ x < 18446744073709551616
/-- Sum and carry, difference and borrow, of words. -/
def pl (x y c : Int) : Int := (x + y + c) % 18446744073709551616
def pc (x y c : Int) : Int := (x + y + c) / 18446744073709551616
def mi (x y b : Int) : Int := (x - y - b) % 18446744073709551616
def mb (x y b : Int) : Int := if x < y + b then 1 else 0
theorem pl_wd (x y c : Int) : Wd (pl x y c) := by unfold Wd pl; omega
theorem mi_wd (x y c : Int) : Wd (mi x y c) := by unfold Wd mi; omega
theorem pc_bd {x y c : Int} (hx : Wd x) (hy : Wd y) (hc : 0 ≤ c ∧ c ≤ 1) : 0 ≤ pc x y c ∧ pc x y c ≤ 1 := by unfold Wd at *; unfold pc; omega
theorem mb_bd (x y b : Int) : 0 ≤ mb x y b ∧ mb x y b ≤ 1 := by unfold mb; split <;> omega
theorem pl_eq (x y c : Int) : pl x y c + 18446744073709551616 * pc x y c = x + y + c := by unfold pl pc; omega
theorem mi_eq {x y b : Int} (hx : Wd x) (hy : Wd y) (hb : 0 ≤ b ∧ b ≤ 1) : mi x y b - 18446744073709551616 * mb x y b = x - y - b := by
  unfold Wd at *; unfold mi mb; split <;> omega

theorem add_vc {x y c : Int} (hx : Wd x) (hy : Wd y) (hc : 0 ≤ c ∧ c ≤ 1) : VC Tryd.prog 36 #[.int .u64 x, .int .u64 y, .int .u64 c] (.tuple #[.int .u64 (pl x y c), .int .u64 (pc x y c)]) := by
  intro w
  refine .inr ⟨_, ?_, rfl, ⟨rfl, rfl, rfl, Nat.le_refl _, fun _ _ => rfl⟩⟩
  rw [run_callFunc_extern (fn := Tryd.f36) (by kernel_rfl) (by kernel_rfl) (by kernel_rfl) (by kernel_rfl) (e := add64Entry) (by kernel_rfl), run_add64 x y c hx.1 hy.1 hc.1 hc.2]
  rfl
theorem sub_vc {x y c : Int} (hx : Wd x) (hy : Wd y) (hc : 0 ≤ c ∧ c ≤ 1) : VC Tryd.prog 35 #[.int .u64 x, .int .u64 y, .int .u64 c] (.tuple #[.int .u64 (mi x y c), .int .u64 (mb x y c)]) := by
  intro w
  refine .inr ⟨_, ?_, rfl, ⟨rfl, rfl, rfl, Nat.le_refl _, fun _ _ => rfl⟩⟩
  obtain ⟨x, rfl⟩ := Int.eq_ofNat_of_zero_le hx.1
  obtain ⟨y, rfl⟩ := Int.eq_ofNat_of_zero_le hy.1
  obtain ⟨c, rfl⟩ := Int.eq_ofNat_of_zero_le hc.1
  have h1 : mi x y c = (((x + 18446744073709551616 - y - c) % 18446744073709551616 : Nat) : Int) := by unfold Wd at *; unfold mi; omega
  have h2 : mb x y c = ((if x < y + c then 1 else 0 : Nat) : Int) := by unfold mb; split <;> split <;> omega
  rw [run_callFunc_extern (fn := Tryd.f35) (by kernel_rfl) (by kernel_rfl) (by kernel_rfl) (by kernel_rfl) (e := sub64Entry) (by kernel_rfl), run_sub64 x y c (by omega), h1, h2]
  rfl
end Go.Proofs.YtdokbnohlpbfbaaDoor
