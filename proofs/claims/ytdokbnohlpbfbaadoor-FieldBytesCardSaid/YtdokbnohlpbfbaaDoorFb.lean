/-
  From and Bytes: numbers and their bytes.
-/
import Derived.Test.YtdokbnohlpbfbaaDoorPt
import Derived.Test.YtdokbnohlpbfbaaDoorXb
namespace Go.Proofs.YtdokbnohlpbfbaaDoor
open Go Go.RowKit
set_option linter.unusedSimpArgs false
set_option linter.unusedVariables false
set_option maxRecDepth 100000
set_option maxHeartbeats 4000000

/-- The number of the first i bytes, the lowest first. -/
def le (k : List Int) : Nat → Int
  | 0 => 0
  | i + 1 => le k i + k.getD i 0 * 256 ^ i
theorem p256 (i : Nat) : (256 : Int) ^ (i + 1) = 256 ^ i * 256 := Int.pow_succ _ _
theorem p256_pos (i : Nat) : (0 : Int) < 256 ^ i := Int.pow_pos (by omega)
theorem le_bd {k : List Int} (hb : By k) : ∀ i, 0 ≤ le k i ∧ le k i < 256 ^ i
  | 0 => by simp [le]
  | i + 1 => by
    have h1 := le_bd hb i
    have h2 := hb.get i
    have h3 := p256_pos i
    have e := p256 i
    simp only [le]
    generalize (256 : Int) ^ i = s at *
    generalize k.getD i 0 = b at *
    rw [e]
    have h4 : b * s ≤ 255 * s := Int.mul_le_mul_of_nonneg_right h2.2 (by omega)
    have h5 : 0 ≤ b * s := Int.mul_nonneg h2.1 (by omega)
    generalize b * s = t at *
    omega
theorem or_nat (w c b n : Nat) (hc : c = b * 2 ^ n) (hw : w < 2 ^ n) (h : w + c < 18446744073709551616) : bitsOf .or .u64 w c = (w : Int) + c := by
  have e2 : ((BitVec.ofInt 64 (w : Int)) ||| (BitVec.ofInt 64 (c : Int))).toNat = w + c := by
    rw [BitVec.toNat_or, BitVec.toNat_ofInt, BitVec.toNat_ofInt]
    have a1 : ((w : Int) % ((2 ^ 64 : Nat) : Int)).toNat = w := by omega
    have a2 : ((c : Int) % ((2 ^ 64 : Nat) : Int)).toNat = c := by omega
    rw [a1, a2, hc, Nat.mul_comm b, Nat.or_comm, ← Nat.two_pow_add_eq_or_of_lt hw]
    omega
  show IntKind.u64.wrap (((BitVec.ofInt 64 (w : Int)) ||| (BitVec.ofInt 64 (c : Int))).toNat : Int) = _
  rw [e2, wrapU64]
  omega
theorem or_add {w b : Int} {n : Nat} (hw : 0 ≤ w ∧ w < 2 ^ n) (hb : 0 ≤ b) (h : w + b * 2 ^ n < 18446744073709551616) : bitsOf .or .u64 w (b * 2 ^ n) = w + b * 2 ^ n := by
  obtain ⟨w, rfl⟩ := Int.eq_ofNat_of_zero_le hw.1
  obtain ⟨b, rfl⟩ := Int.eq_ofNat_of_zero_le hb
  have e3 : ((2 ^ n : Nat) : Int) = 2 ^ n := by simp
  have hw2 : w < 2 ^ n := by have := hw.2; omega
  obtain ⟨c, hc⟩ : ∃ c, c = b * 2 ^ n := ⟨_, rfl⟩
  have e1 : ((b : Int) * 2 ^ n) = (c : Int) := by rw [hc]; simp
  rw [e1] at h ⊢
  exact or_nat w c b n hc hw2 (by omega)
theorem pow_split (i : Nat) (h : i < 32) : ∃ q r : Nat, q < 4 ∧ r < 8 ∧ i = 8 * q + r ∧ i / 8 = q ∧ i % 8 = r := ⟨i / 8, i % 8, by omega, by omega, by omega, rfl, rfl⟩
/-- A word of the number, and the next byte put into it. -/
theorem wl_put {X b s : Int} {q : Nat} (hq : q < 4) (hs : 0 < s ∧ 256 * s ≤ 18446744073709551616) (hb : 0 ≤ b ∧ b ≤ 255) (hX : 0 ≤ X ∧ X < 18446744073709551616 ^ q * s) :
    0 ≤ (wl X).getD q 0 ∧ (wl X).getD q 0 < s ∧ wl (X + b * (18446744073709551616 ^ q * s)) = (wl X).set q ((wl X).getD q 0 + b * s) := by
  have h1 : b * s ≤ 255 * s := Int.mul_le_mul_of_nonneg_right hb.2 (by omega)
  have h2 : 0 ≤ b * s := Int.mul_nonneg hb.1 (by omega)
  have e : b * (18446744073709551616 ^ q * s) = b * s * 18446744073709551616 ^ q := by rw [Int.mul_comm (18446744073709551616 ^ q), Int.mul_assoc]
  rw [e]
  generalize b * s = c at *
  match q, hq with
  | 0, _ =>
    simp only [Int.pow_zero, Int.mul_one, Int.one_mul] at hX ⊢
    simp only [wl, List.getD_cons_zero, List.set_cons_zero, List.cons.injEq, and_true]
    omega
  | 1, _ =>
    simp only [Int.pow_one] at hX ⊢
    simp only [wl, List.getD_cons_succ, List.getD_cons_zero, List.set_cons_succ, List.set_cons_zero, List.cons.injEq, and_true]
    omega
  | 2, _ =>
    rw [show (18446744073709551616 : Int) ^ 2 = 340282366920938463463374607431768211456 by decide] at hX ⊢
    simp only [wl, List.getD_cons_succ, List.getD_cons_zero, List.set_cons_succ, List.set_cons_zero, List.cons.injEq, and_true]
    omega
  | 3, _ =>
    rw [show (18446744073709551616 : Int) ^ 3 = 6277101735386680763835789423207666416102355444464034512896 by decide] at hX ⊢
    simp only [wl, List.getD_cons_succ, List.getD_cons_zero, List.set_cons_succ, List.set_cons_zero, List.cons.injEq, and_true]
    omega
theorem pow_qr (q r : Nat) : (256 : Int) ^ (8 * q + r) = 18446744073709551616 ^ q * 256 ^ r := by
  rw [Int.pow_add, Int.pow_mul]
  rfl
theorem pow_r (r : Nat) : (256 : Int) ^ r = 2 ^ (r * 8) := by
  rw [Nat.mul_comm, Int.pow_mul]; rfl
theorem pow_small (r : Nat) (h : r < 8) : 256 * (256 : Int) ^ r ≤ 18446744073709551616 := by
  match r, h with
  | 0, _ => decide
  | 1, _ => decide
  | 2, _ => decide
  | 3, _ => decide
  | 4, _ => decide
  | 5, _ => decide
  | 6, _ => decide
  | 7, _ => decide
end Go.Proofs.YtdokbnohlpbfbaaDoor
