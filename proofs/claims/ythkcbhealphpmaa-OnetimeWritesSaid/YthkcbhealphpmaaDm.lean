/-
  Numbers as digits of 8 bits, the lowest first: what the reference reckons with. Over any program.
-/
import Derived.Test.YthkcbhealphpmaaXz
namespace Go.Proofs.Ythkcbhealphpmaa
open Go Go.RowKit
set_option linter.unusedVariables false
set_option linter.unusedSimpArgs false

def dv : List Int → Int
  | [] => 0
  | d :: l => d + 256 * dv l
theorem q256 (i : Nat) : (256 : Int) ^ (i + 1) = 256 ^ i * 256 := Int.pow_succ _ _
theorem q256_pos (i : Nat) : (0 : Int) < 256 ^ i := Int.pow_pos (by omega)
theorem dv_append : ∀ (l r : List Int), dv (l ++ r) = dv l + 256 ^ l.length * dv r
  | [], r => by simp [dv]
  | d :: l, r => by
    show d + 256 * dv (l ++ r) = d + 256 * dv l + 256 ^ (l.length + 1) * dv r
    rw [dv_append l r, q256, Int.mul_add, Int.mul_comm (256 ^ l.length) 256, Int.mul_assoc, Int.add_assoc]
theorem By.tail {d : Int} {l : List Int} (h : By (d :: l)) : By l := fun x hx => h x (by simp [hx])
theorem By.take {l : List Int} (h : By l) (i : Nat) : By (l.take i) := fun x hx => h x (List.mem_of_mem_take hx)
theorem By.drop {l : List Int} (h : By l) (i : Nat) : By (l.drop i) := fun x hx => h x (List.mem_of_mem_drop hx)
theorem By.set {l : List Int} (h : By l) {i : Nat} {x : Int} (hx : 0 ≤ x ∧ x ≤ 255) : By (l.set i x) := fun y hy => by
  rcases List.mem_or_eq_of_mem_set hy with h1 | h1
  · exact h y h1
  · rw [h1]; exact hx
theorem dv_bd : ∀ {l : List Int}, By l → 0 ≤ dv l ∧ dv l < 256 ^ l.length
  | [], _ => by simp [dv]
  | d :: l, h => by
    have h1 := dv_bd h.tail
    have h2 := h d (by simp)
    have e := q256 l.length
    show 0 ≤ d + 256 * dv l ∧ d + 256 * dv l < 256 ^ (l.length + 1)
    generalize (256 : Int) ^ l.length = s at *
    generalize (256 : Int) ^ (l.length + 1) = t at *
    omega
theorem dv_take_succ (l : List Int) (i : Nat) : dv (l.take (i + 1)) = dv (l.take i) + 256 ^ i * l.getD i 0 := by
  rcases Nat.lt_or_ge i l.length with h | h
  · rw [List.take_add_one, List.getElem?_eq_getElem h, Option.toList_some, dv_append, List.length_take, Nat.min_eq_left (by omega), List.getD_eq_getElem?_getD, List.getElem?_eq_getElem h]
    simp [dv]
  · rw [List.take_of_length_le (by omega), List.take_of_length_le h, List.getD_eq_getElem?_getD, List.getElem?_eq_none h]
    simp
theorem dv_split {l : List Int} {i : Nat} (h : i ≤ l.length) : dv l = dv (l.take i) + 256 ^ i * dv (l.drop i) := by
  have h1 := dv_append (l.take i) (l.drop i)
  rw [List.take_append_drop, List.length_take, Nat.min_eq_left h] at h1
  exact h1
theorem dv_drop {l : List Int} {i : Nat} (h : i < l.length) : dv (l.drop i) = l.getD i 0 + 256 * dv (l.drop (i + 1)) := by
  rw [List.drop_eq_getElem_cons h, List.getD_eq_getElem?_getD, List.getElem?_eq_getElem h]; rfl
theorem pow_le' {i j : Nat} (h : i ≤ j) : (256 : Int) ^ i ≤ 256 ^ j := by
  obtain ⟨k, rfl⟩ := Nat.exists_eq_add_of_le h
  rw [Int.pow_add]
  have h1 := q256_pos i
  have h2 := q256_pos k
  have : 256 ^ i * 1 ≤ (256 : Int) ^ i * 256 ^ k := Int.mul_le_mul_of_nonneg_left (by omega) (by omega)
  omega
theorem dv_get {l : List Int} (hb : By l) (i : Nat) : l.getD i 0 = dv l / 256 ^ i % 256 := by
  have hp := q256_pos i
  rcases Nat.lt_or_ge i l.length with h | h
  · have h1 := dv_bd (hb.take i)
    rw [List.length_take, Nat.min_eq_left (by omega)] at h1
    rw [dv_split (show i ≤ l.length by omega), Int.add_mul_ediv_left _ _ (by omega), Int.ediv_eq_zero_of_lt h1.1 h1.2, Int.zero_add, dv_drop h]
    have := hb.get i
    omega
  · have h1 := dv_bd hb
    have h2 := pow_le' h
    rw [List.getD_eq_getElem?_getD, List.getElem?_eq_none h, Int.ediv_eq_zero_of_lt h1.1 (by omega)]
    rfl
theorem dv_set {l : List Int} {i : Nat} (x : Int) (h : i < l.length) : dv (l.set i x) = dv l + (x - l.getD i 0) * 256 ^ i := by
  induction l generalizing i with
  | nil => simp at h
  | cons d l ih =>
    cases i with
    | zero => simp [dv]; omega
    | succ i =>
      have h1 := ih (i := i) (by simpa using h)
      show d + 256 * dv (l.set i x) = d + 256 * dv l + (x - l.getD i 0) * 256 ^ (i + 1)
      rw [h1, q256, Int.mul_add, ← Int.add_assoc]
      congr 1
      rw [Int.mul_comm 256, Int.mul_assoc]
theorem dv_zl (n : Nat) : dv (zl n) = 0 := by
  induction n with
  | zero => rfl
  | succ n ih => unfold zl at *; rw [List.replicate_succ]; simp [dv, ih]
theorem zl_by (n : Nat) : By (zl n) := fun x hx => by unfold zl at hx; rw [List.mem_replicate] at hx; omega
/-! ### a sum -/
def pcar (a b : List Int) : Nat → Int
  | 0 => 0
  | i + 1 => (pcar a b i + a.getD i 0 + b.getD i 0) / 256
def pout (a b : List Int) : Nat → List Int
  | 0 => []
  | i + 1 => pout a b i ++ [(pcar a b i + a.getD i 0 + b.getD i 0) % 256]
def plusN (a b : List Int) : Nat := if pcar a b (max a.length b.length) = 0 then max a.length b.length else max a.length b.length + 1
def plusL (a b : List Int) : List Int := pout a b (plusN a b)
theorem pout_len (a b : List Int) : ∀ i, (pout a b i).length = i
  | 0 => rfl
  | i + 1 => by simp [pout, pout_len a b i]
theorem pcar_bd {a b : List Int} (ha : By a) (hb : By b) : ∀ i, 0 ≤ pcar a b i ∧ pcar a b i ≤ 1
  | 0 => by simp [pcar]
  | i + 1 => by
    have h1 := pcar_bd ha hb i
    have h2 := ha.get i
    have h3 := hb.get i
    simp only [pcar]
    omega
theorem pout_by (a b : List Int) : ∀ i, By (pout a b i)
  | 0 => By.nil
  | i + 1 => (pout_by a b i).app (By.cons (by omega) By.nil)
theorem pout_dv (a b : List Int) : ∀ i, dv (pout a b i) + 256 ^ i * pcar a b i = dv (a.take i) + dv (b.take i)
  | 0 => by simp [pout, pcar, dv]
  | i + 1 => by
    have h1 := pout_dv a b i
    rw [dv_take_succ, dv_take_succ]
    simp only [pout, pcar]
    rw [dv_append, pout_len, q256]
    simp only [dv]
    generalize hs : pcar a b i + a.getD i 0 + b.getD i 0 = x at *
    have h2 : 256 ^ i * (x % 256) + 256 ^ i * 256 * (x / 256) = 256 ^ i * x := by
      rw [Int.mul_assoc, ← Int.mul_add]
      congr 1
      omega
    have h3 : 256 ^ i * x = 256 ^ i * pcar a b i + 256 ^ i * a.getD i 0 + 256 ^ i * b.getD i 0 := by rw [← hs, Int.mul_add, Int.mul_add]
    simp only [Int.mul_zero, Int.add_zero]
    omega
theorem plusN_le (a b : List Int) : max a.length b.length ≤ plusN a b ∧ plusN a b ≤ max a.length b.length + 1 := by unfold plusN; split <;> omega
theorem pcar_end {a b : List Int} (ha : By a) (hb : By b) : pcar a b (plusN a b) = 0 := by
  unfold plusN
  split
  · assumption
  · have h1 := pcar_bd ha hb (max a.length b.length)
    simp only [pcar]
    rw [List.getD_eq_getElem?_getD, List.getElem?_eq_none (by omega), List.getD_eq_getElem?_getD, List.getElem?_eq_none (by omega)]
    simp
    omega
theorem plusL_len (a b : List Int) : (plusL a b).length = plusN a b := pout_len a b _
theorem plusL_by (a b : List Int) : By (plusL a b) := pout_by a b _
theorem plusL_dv {a b : List Int} (ha : By a) (hb : By b) : dv (plusL a b) = dv a + dv b := by
  have h := pout_dv a b (plusN a b)
  have h1 := plusN_le a b
  rw [pcar_end ha hb, List.take_of_length_le (by omega), List.take_of_length_le (by omega), Int.mul_zero, Int.add_zero] at h
  exact h
/-- The loop goes on. -/
theorem plus_on {a b : List Int} (ha : By a) (hb : By b) {i : Nat} (h : i ≤ plusN a b) : (i < plusN a b ↔ i < a.length ∨ i < b.length ∨ 0 < pcar a b i) := by
  have h1 := plusN_le a b
  have h2 := pcar_bd ha hb i
  constructor
  · intro hlt
    by_cases hM : i < max a.length b.length
    · omega
    · obtain rfl : i = max a.length b.length := by omega
      right; right
      unfold plusN at hlt
      split at hlt
      · omega
      · omega
  · intro hc
    rcases Nat.lt_or_ge i (plusN a b) with h3 | h3
    · exact h3
    · obtain rfl : i = plusN a b := by omega
      have := pcar_end ha hb
      omega
/-! ### a product -/
def rowT (out : List Int) (ai : Int) (b : List Int) (i : Nat) : Nat → List Int × Int
  | 0 => (out, 0)
  | k + 1 => ((rowT out ai b i k).1.set (i + k) (((rowT out ai b i k).1.getD (i + k) 0 + (rowT out ai b i k).2 + ai * b.getD k 0) % 256), ((rowT out ai b i k).1.getD (i + k) 0 + (rowT out ai b i k).2 + ai * b.getD k 0) / 256)
def rowN (out : List Int) (ai : Int) (b : List Int) (i : Nat) : Nat := if (rowT out ai b i b.length).2 = 0 then b.length else b.length + 1
def rowL (out : List Int) (ai : Int) (b : List Int) (i : Nat) : List Int := (rowT out ai b i (rowN out ai b i)).1
section
variable {out b : List Int} {ai : Int} {i : Nat}
theorem rowT_len : ∀ k, (rowT out ai b i k).1.length = out.length
  | 0 => rfl
  | k + 1 => by simp [rowT, rowT_len k]
theorem mul_bd (hai : 0 ≤ ai ∧ ai ≤ 255) (hb : By b) (k : Nat) : 0 ≤ ai * b.getD k 0 ∧ ai * b.getD k 0 ≤ 65025 := by
  have h := hb.get k
  have h1 : ai * b.getD k 0 ≤ 255 * b.getD k 0 := Int.mul_le_mul_of_nonneg_right hai.2 h.1
  have h2 : 0 ≤ ai * b.getD k 0 := Int.mul_nonneg hai.1 h.1
  omega
theorem rowT_bd (ho : By out) (hai : 0 ≤ ai ∧ ai ≤ 255) (hb : By b) : ∀ k, By (rowT out ai b i k).1 ∧ 0 ≤ (rowT out ai b i k).2 ∧ (rowT out ai b i k).2 ≤ 255
  | 0 => ⟨ho, by simp [rowT], by simp [rowT]⟩
  | k + 1 => by
    obtain ⟨h1, h2, h3⟩ := rowT_bd ho hai hb k
    have h4 := mul_bd hai hb k
    have h5 := h1.get (i + k)
    simp only [rowT]
    exact ⟨h1.set (by omega), by omega, by omega⟩
theorem rowT_dv : ∀ k, i + k ≤ out.length → dv (rowT out ai b i k).1 + 256 ^ (i + k) * (rowT out ai b i k).2 = dv out + ai * 256 ^ i * dv (b.take k)
  | 0, _ => by simp [rowT, dv]
  | k + 1, h => by
    have h1 := rowT_dv k (by omega)
    have hl := @rowT_len out b ai i k
    simp only [rowT]
    rw [dv_set _ (by omega), dv_take_succ, ← Nat.add_assoc, q256]
    generalize (rowT out ai b i k).1.getD (i + k) 0 = d at *
    generalize (rowT out ai b i k).2 = c at *
    generalize dv (rowT out ai b i k).1 = V at *
    generalize b.getD k 0 = bk at *
    generalize hx : d + c + ai * bk = x at *
    have e1 : (x % 256 - d) * 256 ^ (i + k) + 256 ^ (i + k) * 256 * (x / 256) = 256 ^ (i + k) * (x - d) := by
      rw [Int.mul_comm (x % 256 - d), Int.mul_assoc, ← Int.mul_add]
      congr 1
      omega
    have e2 : 256 ^ (i + k) * (x - d) = 256 ^ (i + k) * c + ai * 256 ^ i * (256 ^ k * bk) := by
      rw [show x - d = c + ai * bk by omega, Int.mul_add, Int.pow_add]
      congr 1
      ac_rfl
    rw [Int.mul_add]
    omega
theorem rowN_le : b.length ≤ rowN out ai b i ∧ rowN out ai b i ≤ b.length + 1 := by unfold rowN; split <;> omega
theorem row_end (ho : By out) (hai : 0 ≤ ai ∧ ai ≤ 255) (hb : By b) (hl : i + b.length < out.length) (hv : dv out < 256 ^ (i + b.length)) : (rowT out ai b i (rowN out ai b i)).2 = 0 := by
  unfold rowN
  split
  · assumption
  · have h1 := @rowT_dv out b ai i b.length (by omega)
    obtain ⟨k1, k2, k3⟩ := @rowT_bd out b ai i ho hai hb b.length
    have h2 := dv_bd k1
    have h3 := dv_bd hb
    have hg := dv_get k1 (i + b.length)
    simp only [rowT]
    rw [List.getD_eq_getElem?_getD (l := b), List.getElem?_eq_none (by omega)]
    simp only [Option.getD_none, Int.mul_zero, Int.add_zero]
    rw [List.take_of_length_le (Nat.le_refl _)] at h1
    have hp := q256_pos (i + b.length)
    have e3 : ai * 256 ^ i * dv b ≤ 255 * (256 ^ i * (256 ^ b.length - 1)) := by
      rw [Int.mul_assoc]
      have a1 : 256 ^ i * dv b ≤ 256 ^ i * (256 ^ b.length - 1) := Int.mul_le_mul_of_nonneg_left (by omega) (Int.le_of_lt (q256_pos i))
      have a2 : 0 ≤ 256 ^ i * dv b := Int.mul_nonneg (Int.le_of_lt (q256_pos i)) h3.1
      have a3 : ai * (256 ^ i * dv b) ≤ 255 * (256 ^ i * dv b) := Int.mul_le_mul_of_nonneg_right hai.2 a2
      omega
    have e4 : 256 ^ i * ((256 : Int) ^ b.length - 1) = 256 ^ (i + b.length) - 256 ^ i := by rw [Int.mul_sub, ← Int.pow_add, Int.mul_one]
    have hpi := q256_pos i
    rw [e4] at e3
    generalize dv (rowT out ai b i b.length).1 = V at *
    generalize (rowT out ai b i b.length).2 = c at *
    generalize (256 : Int) ^ (i + b.length) = s at *
    generalize ai * 256 ^ i * dv b = t at *
    have h5 : V + s * c < s * 256 := by omega
    have h6 : V / s + c < 256 := by
      have : (V + s * c) / s < 256 := Int.ediv_lt_of_lt_mul hp (by rw [Int.mul_comm 256]; exact h5)
      rwa [Int.add_mul_ediv_left _ _ (by omega)] at this
    have h7 : 0 ≤ V / s := Int.ediv_nonneg h2.1 (by omega)
    rw [hg]
    omega
theorem rowL_len : (rowL out ai b i).length = out.length := rowT_len _
theorem rowL_by (ho : By out) (hai : 0 ≤ ai ∧ ai ≤ 255) (hb : By b) : By (rowL out ai b i) := (rowT_bd ho hai hb _).1
theorem rowL_dv (ho : By out) (hai : 0 ≤ ai ∧ ai ≤ 255) (hb : By b) (hl : i + b.length < out.length) (hv : dv out < 256 ^ (i + b.length)) : dv (rowL out ai b i) = dv out + ai * 256 ^ i * dv b := by
  have h := @rowT_dv out b ai i (rowN out ai b i) (by have := @rowN_le out b ai i; omega)
  rw [row_end ho hai hb hl hv, Int.mul_zero, Int.add_zero, List.take_of_length_le (rowN_le).1] at h
  exact h
theorem row_on (ho : By out) (hai : 0 ≤ ai ∧ ai ≤ 255) (hb : By b) (hl : i + b.length < out.length) (hv : dv out < 256 ^ (i + b.length)) {k : Nat} (h : k ≤ rowN out ai b i) :
    (k < rowN out ai b i ↔ k < b.length ∨ 0 < (rowT out ai b i k).2) := by
  have h1 := @rowN_le out b ai i
  have h2 := (@rowT_bd out b ai i ho hai hb k).2
  constructor
  · intro hlt
    by_cases hM : k < b.length
    · omega
    · obtain rfl : k = b.length := by omega
      right
      unfold rowN at hlt
      split at hlt <;> omega
  · intro hc
    rcases Nat.lt_or_ge k (rowN out ai b i) with h3 | h3
    · exact h3
    · obtain rfl : k = rowN out ai b i := by omega
      have := row_end ho hai hb hl hv
      omega
end
def rowsT (a b : List Int) : Nat → List Int
  | 0 => zl (a.length + b.length + 1)
  | i + 1 => rowL (rowsT a b i) (a.getD i 0) b i
def timesL (a b : List Int) : List Int := rowsT a b a.length
theorem rowsT_len (a b : List Int) : ∀ i, (rowsT a b i).length = a.length + b.length + 1
  | 0 => by simp [rowsT]
  | i + 1 => by rw [rowsT, rowL_len, rowsT_len a b i]
theorem rowsT_spec {a b : List Int} (ha : By a) (hb : By b) : ∀ i, i ≤ a.length → By (rowsT a b i) ∧ dv (rowsT a b i) = dv (a.take i) * dv b ∧ dv (rowsT a b i) < 256 ^ (i + b.length)
  | 0, _ => by
    refine ⟨zl_by _, by simp [rowsT, dv_zl, dv], ?_⟩
    simp only [rowsT, dv_zl]
    exact q256_pos _
  | i + 1, h => by
    obtain ⟨h1, h2, h3⟩ := rowsT_spec ha hb i (by omega)
    have hai := ha.get i
    have hl := rowsT_len a b i
    have hd := rowL_dv h1 hai hb (i := i) (by omega) h3
    have hv : dv (rowsT a b (i + 1)) = dv (a.take (i + 1)) * dv b := by
      show dv (rowL _ _ _ _) = _
      rw [hd, h2, dv_take_succ, Int.add_mul, Int.mul_comm (256 ^ i)]
    refine ⟨rowL_by h1 hai hb, hv, ?_⟩
    rw [hv]
    have b1 := dv_bd (ha.take (i + 1))
    have b2 := dv_bd hb
    rw [List.length_take, Nat.min_eq_left h] at b1
    rw [Int.pow_add]
    have e1 : dv (a.take (i + 1)) * dv b ≤ dv (a.take (i + 1)) * 256 ^ b.length := Int.mul_le_mul_of_nonneg_left (by omega) b1.1
    have e2 : dv (a.take (i + 1)) * 256 ^ b.length < 256 ^ (i + 1) * 256 ^ b.length := Int.mul_lt_mul_of_pos_right b1.2 (q256_pos _)
    omega
theorem timesL_len (a b : List Int) : (timesL a b).length = a.length + b.length + 1 := rowsT_len a b _
theorem timesL_by {a b : List Int} (ha : By a) (hb : By b) : By (timesL a b) := (rowsT_spec ha hb a.length (Nat.le_refl _)).1
theorem timesL_dv {a b : List Int} (ha : By a) (hb : By b) : dv (timesL a b) = dv a * dv b := by
  have := (rowsT_spec ha hb a.length (Nat.le_refl _)).2.1
  rwa [List.take_of_length_le (Nat.le_refl _)] at this
end Go.Proofs.Ythkcbhealphpmaa
