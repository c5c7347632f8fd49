/-
  Words' bits: or, xor and and of words, sums of bytes in their places.
-/
import Derived.Test.YtjfhdckcjkgjnaaDoorSum
namespace Go.Proofs.YtjfhdckcjkgjnaaDoor
open Go Go.RowKit
set_option linter.unusedSimpArgs false
set_option linter.unusedVariables false
set_option maxRecDepth 100000

theorem u32_wrap_nat (n : Nat) (h : n < 4294967296) : IntKind.u32.wrap (n : Int) = n := by rw [wrapU32]; omega
theorem bv_bits (x : BitVec 32) : BitVec.ofInt 32 (IntKind.u32.wrap (x.toNat : Int)) = x := by
  rw [u32_wrap_nat _ x.isLt]
  simp
theorem or_bv (x y : Int) : BitVec.ofInt 32 (bitsOf .or .u32 x y) = BitVec.ofInt 32 x ||| BitVec.ofInt 32 y := bv_bits _
theorem and_bv (x y : Int) : BitVec.ofInt 32 (bitsOf .and .u32 x y) = BitVec.ofInt 32 x &&& BitVec.ofInt 32 y := bv_bits _
theorem xor_bv (x y : Int) : BitVec.ofInt 32 (bitsOf .xor .u32 x y) = BitVec.ofInt 32 x ^^^ BitVec.ofInt 32 y := bv_bits _
theorem or_def (x y : Int) : bitsOf .or .u32 x y = IntKind.u32.wrap ((BitVec.ofInt 32 x ||| BitVec.ofInt 32 y).toNat : Int) := rfl
theorem xor_def (x y : Int) : bitsOf .xor .u32 x y = IntKind.u32.wrap ((BitVec.ofInt 32 x ^^^ BitVec.ofInt 32 y).toNat : Int) := rfl
theorem or_comm32 (x y : Int) : bitsOf .or .u32 x y = bitsOf .or .u32 y x := by
  rw [or_def, or_def, BitVec.or_comm]
theorem ones_bv : BitVec.ofInt 32 4294967295 = BitVec.allOnes 32 := by decide
theorem or_xor (a b c d : Int) (h : BitVec.ofInt 32 a ||| BitVec.ofInt 32 b = BitVec.ofInt 32 c ^^^ BitVec.ofInt 32 d) : bitsOf .or .u32 a b = bitsOf .xor .u32 c d := by
  rw [or_def, xor_def, h]
/-- The choice: its two halves meet in no bit. -/
theorem ch_eq (e f g : Int) : bitsOf .or .u32 (bitsOf .and .u32 e f) (bitsOf .and .u32 (bitsOf .xor .u32 4294967295 e) g) = bitsOf .xor .u32 (bitsOf .and .u32 e f) (bitsOf .and .u32 (bitsOf .xor .u32 4294967295 e) g) := by
  apply or_xor
  simp only [and_bv, xor_bv, ones_bv]
  apply BitVec.eq_of_getLsbD_eq
  intro i hi
  simp only [BitVec.getLsbD_or, BitVec.getLsbD_and, BitVec.getLsbD_xor, BitVec.getLsbD_allOnes, hi, decide_true]
  cases (BitVec.ofInt 32 e).getLsbD i <;> cases (BitVec.ofInt 32 f).getLsbD i <;> cases (BitVec.ofInt 32 g).getLsbD i <;> rfl
/-- The most of three. -/
theorem maj_eq (a b c : Int) : bitsOf .or .u32 (bitsOf .or .u32 (bitsOf .and .u32 a b) (bitsOf .and .u32 a c)) (bitsOf .and .u32 b c) = bitsOf .xor .u32 (bitsOf .xor .u32 (bitsOf .and .u32 a b) (bitsOf .and .u32 a c)) (bitsOf .and .u32 b c) := by
  apply or_xor
  simp only [and_bv, xor_bv, or_bv]
  apply BitVec.eq_of_getLsbD_eq
  intro i hi
  simp
  cases (BitVec.ofInt 32 a).getLsbD i <;> cases (BitVec.ofInt 32 b).getLsbD i <;> cases (BitVec.ofInt 32 c).getLsbD i <;> simp
theorem or_nat (m n : Nat) (hm : m < 4294967296) (hn : n < 4294967296) : bitsOf .or .u32 (m : Int) (n : Int) = ((m ||| n : Nat) : Int) := by
  rw [or_def]
  have h : (BitVec.ofInt 32 (m : Int) ||| BitVec.ofInt 32 (n : Int)).toNat = m ||| n := by
    simp [BitVec.toNat_or]
    rw [Nat.mod_eq_of_lt hm, Nat.mod_eq_of_lt hn]
  rw [h]
  exact u32_wrap_nat _ (Nat.or_lt_two_pow (n := 32) hm hn)
theorem or_add (a b i : Nat) (h : b < 2 ^ i) : a * 2 ^ i ||| b = a * 2 ^ i + b := by
  have := Nat.shiftLeft_add_eq_or_of_lt (i := i) h a
  rw [Nat.shiftLeft_eq] at this
  exact this.symm
theorem w4_add (rs : List Int) (i : Nat) (hb : ∀ p, 0 ≤ rs.getD p 0 ∧ rs.getD p 0 ≤ 255) :
    w4 rs i = rs.getD (4 * i) 0 * 16777216 + rs.getD (4 * i + 1) 0 * 65536 + rs.getD (4 * i + 2) 0 * 256 + rs.getD (4 * i + 3) 0 := by
  unfold w4
  have b0 := hb (4 * i)
  have b1 := hb (4 * i + 1)
  have b2 := hb (4 * i + 2)
  have b3 := hb (4 * i + 3)
  obtain ⟨x0, h0⟩ := Int.eq_ofNat_of_zero_le b0.1
  obtain ⟨x1, h1⟩ := Int.eq_ofNat_of_zero_le b1.1
  obtain ⟨x2, h2⟩ := Int.eq_ofNat_of_zero_le b2.1
  obtain ⟨x3, h3⟩ := Int.eq_ofNat_of_zero_le b3.1
  rw [h0] at b0 ⊢
  rw [h1] at b1 ⊢
  rw [h2] at b2 ⊢
  rw [h3] at b3 ⊢
  have e0 : IntKind.u32.wrap ((x0 : Int) * 16777216) = ((x0 * 2 ^ 24 : Nat) : Int) := by rw [wrapU32]; omega
  have e1 : IntKind.u32.wrap ((x1 : Int) * 65536) = ((x1 * 2 ^ 16 : Nat) : Int) := by rw [wrapU32]; omega
  have e2 : IntKind.u32.wrap ((x2 : Int) * 256) = ((x2 * 2 ^ 8 : Nat) : Int) := by rw [wrapU32]; omega
  rw [e0, e1, e2, or_nat _ _ (by omega) (by omega)]
  have a1 : x0 * 2 ^ 24 ||| x1 * 2 ^ 16 = (x0 * 2 ^ 8 + x1) * 2 ^ 16 := by
    rw [or_add _ _ 24 (by omega)]; omega
  rw [a1, or_nat _ _ (by omega) (by omega)]
  have a2 : (x0 * 2 ^ 8 + x1) * 2 ^ 16 ||| x2 * 2 ^ 8 = (x0 * 2 ^ 16 + x1 * 2 ^ 8 + x2) * 2 ^ 8 := by
    rw [or_add _ _ 16 (by omega)]; omega
  rw [a2, or_nat _ _ (by omega) (by omega), or_add _ _ 8 (by omega)]
  omega
theorem gb_nums' (s : ByteArray) (i : Nat) : gb s i = (nums s).getD i 0 := by
  unfold gb nums
  rw [List.getD_eq_getElem?_getD, List.getD_eq_getElem?_getD, List.getElem?_map]
  cases s.data.toList[i]? <;> rfl
end Go.Proofs.YtjfhdckcjkgjnaaDoor
