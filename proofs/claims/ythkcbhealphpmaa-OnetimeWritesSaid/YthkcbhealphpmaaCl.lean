/-
  r's bytes: what the mask keeps.
-/
import Derived.Test.YthkcbhealphpmaaWr
namespace Go.Proofs.Ythkcbhealphpmaa
open Go Go.RowKit
set_option linter.unusedVariables false
set_option linter.unusedSimpArgs false
set_option maxRecDepth 100000
set_option maxHeartbeats 2000000

theorem and_split (a b c d : Nat) (ha : a < 256) (hc : c < 256) : (a + 256 * b) &&& (c + 256 * d) = (a &&& c) + 256 * (b &&& d) := by
  have h1 : ((a + 256 * b) &&& (c + 256 * d)) % 2 ^ 8 = a &&& c := by
    rw [Nat.and_mod_two_pow]
    congr 1 <;> omega
  have h2 : ((a + 256 * b) &&& (c + 256 * d)) / 2 ^ 8 = b &&& d := by
    rw [Nat.and_div_two_pow]
    congr 1 <;> omega
  omega
/-- A mask's number. -/
def mv : List Nat → Nat
  | [] => 0
  | m :: l => m + 256 * mv l
def andL : List Int → List Nat → List Int
  | x :: l, m :: ms => ((x.toNat &&& m : Nat) : Int) :: andL l ms
  | _, _ => []
theorem andL_ok : ∀ (l : List Int) (m : List Nat), By l → (∀ x ∈ m, x < 256) → l.length = m.length → (((dv l).toNat &&& mv m : Nat) : Int) = dv (andL l m)
  | [], [], _, _, _ => rfl
  | x :: l, y :: m, hl, hm, h => by
    have hx := hl x (by simp)
    have ih := andL_ok l m hl.tail (fun z hz => hm z (by simp [hz])) (by simpa using h)
    have hd := (dv_bd hl.tail).1
    have e : (dv (x :: l)).toNat = x.toNat + 256 * (dv l).toNat := by simp only [dv]; omega
    rw [e, mv, and_split _ _ _ _ (by omega) (hm y (by simp)), andL, dv, ← ih]
    omega
theorem and_nat (w m : Nat) (hw : w < 18446744073709551616) (hm : m < 18446744073709551616) : bitsOf .and .u64 w m = ((w &&& m : Nat) : Int) := by
  have e2 : ((BitVec.ofInt 64 (w : Int)) &&& (BitVec.ofInt 64 (m : Int))).toNat = w &&& m := by
    rw [BitVec.toNat_and, BitVec.toNat_ofInt, BitVec.toNat_ofInt]
    have a1 : ((w : Int) % ((2 ^ 64 : Nat) : Int)).toNat = w := by omega
    have a2 : ((m : Int) % ((2 ^ 64 : Nat) : Int)).toNat = m := by omega
    rw [a1, a2]
  have e3 : w &&& m ≤ w := Nat.and_le_left
  show IntKind.u64.wrap (((BitVec.ofInt 64 (w : Int)) &&& (BitVec.ofInt 64 (m : Int))).toNat : Int) = _
  rw [e2, wrapU64]
  omega
/-- A byte of r. -/
def clF (i : Nat) (b : Int) : Int := if i = 4 ∨ i = 8 ∨ i = 12 then b - b % 4 else if i % 4 = 3 then b % 16 else b
def clL (k : List Int) : List Int := (List.range 16).map fun i => clF i (k.getD i 0)
theorem n252 {x : Int} (h : 0 ≤ x ∧ x ≤ 255) : ((x.toNat &&& 252 : Nat) : Int) = x - x % 4 := by
  have : ∀ x : Fin 256, x.val &&& 252 = x.val - x.val % 4 := by decide +kernel
  have := this ⟨x.toNat, by omega⟩
  simp only at this
  omega
theorem n15 {x : Int} (h : 0 ≤ x ∧ x ≤ 255) : ((x.toNat &&& 15 : Nat) : Int) = x % 16 := by
  have : ∀ x : Fin 256, x.val &&& 15 = x.val % 16 := by decide +kernel
  have := this ⟨x.toNat, by omega⟩
  simp only at this
  omega
theorem n255 {x : Int} (h : 0 ≤ x ∧ x ≤ 255) : ((x.toNat &&& 255 : Nat) : Int) = x := by
  have : ∀ x : Fin 256, x.val &&& 255 = x.val := by decide +kernel
  have := this ⟨x.toNat, by omega⟩
  simp only at this
  omega
theorem take8 (k : List Int) (i : Nat) (h : i + 8 ≤ k.length) : (k.drop i).take 8 = [k.getD i 0, k.getD (i + 1) 0, k.getD (i + 2) 0, k.getD (i + 3) 0, k.getD (i + 4) 0, k.getD (i + 5) 0, k.getD (i + 6) 0, k.getD (i + 7) 0] := by
  apply List.ext_getElem?
  intro j
  by_cases hj : j < 8
  · rw [List.getElem?_take_of_lt hj, List.getElem?_drop, List.getElem?_eq_getElem (by omega)]
    have e : ∀ (p : Nat) (hp : p < k.length), k.getD p 0 = k[p] := fun p hp => by rw [List.getD_eq_getElem?_getD, List.getElem?_eq_getElem hp]; rfl
    match j, hj with
    | 0, _ => simp only [List.getElem?_cons_zero, Nat.add_zero]; rw [e _ (by omega)]
    | 1, _ => simp only [List.getElem?_cons_succ, List.getElem?_cons_zero]; rw [e _ (by omega)]
    | 2, _ => simp only [List.getElem?_cons_succ, List.getElem?_cons_zero]; rw [e _ (by omega)]
    | 3, _ => simp only [List.getElem?_cons_succ, List.getElem?_cons_zero]; rw [e _ (by omega)]
    | 4, _ => simp only [List.getElem?_cons_succ, List.getElem?_cons_zero]; rw [e _ (by omega)]
    | 5, _ => simp only [List.getElem?_cons_succ, List.getElem?_cons_zero]; rw [e _ (by omega)]
    | 6, _ => simp only [List.getElem?_cons_succ, List.getElem?_cons_zero]; rw [e _ (by omega)]
    | 7, _ => simp only [List.getElem?_cons_succ, List.getElem?_cons_zero]; rw [e _ (by omega)]
  · rw [List.getElem?_eq_none (by rw [List.length_take]; omega), List.getElem?_eq_none (by simp; omega)]
/-- The two masked words are r's bytes. -/
theorem clamp_ok {k : List Int} (hk : k.length = 32) (hb : By k) : ∃ lo hi : Int, bitsOf .and .u64 (dv (k.take 8)) 1152921487695413247 = lo ∧ bitsOf .and .u64 (dv ((k.drop 8).take 8)) 1152921487695413244 = hi ∧ (0 ≤ lo ∧ lo < 18446744073709551616) ∧ (0 ≤ hi ∧ hi < 18446744073709551616) ∧ lo + hi * 18446744073709551616 = dv (clL k) := by
  have g : ∀ i, 0 ≤ k.getD i 0 ∧ k.getD i 0 ≤ 255 := fun i => hb.get i
  have e0 := take8 k 0 (by omega)
  have e8 := take8 k 8 (by omega)
  rw [List.drop_zero] at e0
  simp only [Nat.reduceAdd, Nat.zero_add] at e0 e8
  have b0 := dv_bd (hb.take 8)
  have b8 := dv_bd ((hb.drop 8).take 8)
  rw [List.length_take, hk] at b0
  rw [List.length_take, List.length_drop, hk] at b8
  rw [show (256 : Int) ^ min 8 32 = 18446744073709551616 by decide] at b0
  rw [show (256 : Int) ^ min 8 (32 - 8) = 18446744073709551616 by decide] at b8
  have m0 : (1152921487695413247 : Nat) = mv [255, 255, 255, 15, 252, 255, 255, 15] := by decide
  have m8 : (1152921487695413244 : Nat) = mv [252, 255, 255, 15, 252, 255, 255, 15] := by decide
  have a0 := andL_ok (k.take 8) [255, 255, 255, 15, 252, 255, 255, 15] (hb.take 8) (by decide) (by rw [List.length_take, hk]; rfl)
  have a8 := andL_ok ((k.drop 8).take 8) [252, 255, 255, 15, 252, 255, 255, 15] ((hb.drop 8).take 8) (by decide) (by rw [List.length_take, List.length_drop, hk]; rfl)
  have c0 := and_nat (dv (k.take 8)).toNat 1152921487695413247 (by omega) (by omega)
  have c8 := and_nat (dv ((k.drop 8).take 8)).toNat 1152921487695413244 (by omega) (by omega)
  rw [Int.toNat_of_nonneg b0.1] at c0
  rw [Int.toNat_of_nonneg b8.1] at c8
  have l0 : (dv (k.take 8)).toNat &&& 1152921487695413247 ≤ 1152921487695413247 := Nat.and_le_right
  have l8 : (dv ((k.drop 8).take 8)).toNat &&& 1152921487695413244 ≤ 1152921487695413244 := Nat.and_le_right
  refine ⟨_, _, c0, c8, by omega, by omega, ?_⟩
  rw [m0, a0, m8, a8, e0, e8]
  simp only [andL, n252 (g _), n15 (g _), n255 (g _)]
  have hc : clL k = [k.getD 0 0, k.getD 1 0, k.getD 2 0, k.getD 3 0 % 16, k.getD 4 0 - k.getD 4 0 % 4, k.getD 5 0, k.getD 6 0, k.getD 7 0 % 16, k.getD 8 0 - k.getD 8 0 % 4, k.getD 9 0, k.getD 10 0, k.getD 11 0 % 16, k.getD 12 0 - k.getD 12 0 % 4, k.getD 13 0, k.getD 14 0, k.getD 15 0 % 16] := by
    unfold clL clF
    simp [List.range_succ]
  rw [hc]
  simp only [dv]
  omega
theorem clL_len (k : List Int) : (clL k).length = 16 := by unfold clL; simp
theorem clL_by {k : List Int} (hb : By k) : By (clL k) := by
  intro x hx
  unfold clL clF at hx
  obtain ⟨i, _, rfl⟩ := List.mem_map.1 hx
  have := hb.get i
  split
  · omega
  · split <;> omega
end Go.Proofs.Ythkcbhealphpmaa
