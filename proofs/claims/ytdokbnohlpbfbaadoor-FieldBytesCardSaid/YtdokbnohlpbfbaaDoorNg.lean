/-
  The reference's Neg, Minus, Small.
-/
import Derived.Test.YtdokbnohlpbfbaaDoorRo
namespace Go.Proofs.YtdokbnohlpbfbaaDoor
open Go Go.RowKit
set_option linter.unusedVariables false
set_option linter.unusedSimpArgs false
set_option maxRecDepth 100000
set_option maxHeartbeats 4000000

def mdL : List Int := 237 :: (List.replicate 30 255 ++ [127])
def nbr (d : List Int) : Nat → Int
  | 0 => 0
  | i + 1 => if mdL.getD i 0 < d.getD i 0 + nbr d i then 1 else 0
def nout (d : List Int) : Nat → List Int
  | 0 => []
  | i + 1 => nout d i ++ [(mdL.getD i 0 + 256 - d.getD i 0 - nbr d i) % 256]
theorem mdL_dv : dv mdL = pM := by unfold pM; decide
theorem mdL_by : By mdL := by unfold mdL; intro x hx; simp at hx; omega
theorem mdL_at (i : Nat) (h : i < 32) : mdL.getD i 0 = if i = 31 then 127 else if i = 0 then 237 else 255 := by
  have : ∀ i, i < 32 → mdL.getD i 0 = if i = 31 then 127 else if i = 0 then 237 else 255 := by decide
  exact this i h
theorem nbr_bd (d : List Int) : ∀ i, 0 ≤ nbr d i ∧ nbr d i ≤ 1
  | 0 => by simp [nbr]
  | i + 1 => by simp only [nbr]; split <;> omega
theorem nout_len (d : List Int) : ∀ i, (nout d i).length = i
  | 0 => rfl
  | i + 1 => by simp [nout, nout_len d i]
theorem nout_by (d : List Int) : ∀ i, By (nout d i)
  | 0 => By.nil
  | i + 1 => (nout_by d i).app (By.cons (by omega) By.nil)
theorem nout_dv {d : List Int} (hd : By d) : ∀ i, i ≤ 32 → dv (nout d i) = dv (mdL.take i) - dv (d.take i) + 256 ^ i * nbr d i
  | 0, _ => by simp [nout, nbr, dv]
  | i + 1, hi => by
    have h1 := nout_dv hd i (by omega)
    have h2 := hd.get i
    have h3 := mdL_by.get i
    have h4 := nbr_bd d i
    rw [dv_take_succ, dv_take_succ]
    simp only [nout, nbr]
    rw [dv_append, nout_len, q256, h1]
    simp only [dv, Int.mul_zero, Int.add_zero]
    generalize mdL.getD i 0 = mm at *
    generalize d.getD i 0 = x at *
    generalize nbr d i = b at *
    generalize (256 : Int) ^ i = s at *
    have e : (mm + 256 - x - b) % 256 = mm - x - b + 256 * (if mm < x + b then 1 else 0) := by split <;> omega
    rw [e]
    simp only [Int.mul_add, Int.mul_sub, ← Int.mul_assoc]
    generalize s * 256 * (if mm < x + b then 1 else 0) = t at *
    omega
theorem nout_end {d : List Int} (hd : By d) (hp : dv d ≤ pM) : dv (nout d 32) = pM - dv d := by
  have h1 := nout_dv hd 32 (Nat.le_refl _)
  have h2 := nbr_bd d 32
  have h3 := dv_bd (nout_by d 32)
  rw [nout_len] at h3
  have h4 : mdL.take 32 = mdL := by decide
  have hq := qp
  have h32 := p31_32
  have h0 := dv_bd hd
  have h5 : dv (d.take 32) = dv d := by
    rcases Nat.lt_or_ge 32 d.length with hl | hl
    · have k1 := dv_split (l := d) (i := 32) (by omega)
      have k2 := dv_bd (hd.drop 32)
      have k3 := dv_bd (hd.take 32)
      have k4 : dv (d.drop 32) = 0 := by
        rcases Int.lt_or_le 0 (dv (d.drop 32)) with h | h
        · have : (256 : Int) ^ 32 * 1 ≤ 256 ^ 32 * dv (d.drop 32) := Int.mul_le_mul_of_nonneg_left (by omega) (Int.le_of_lt (q256_pos 32))
          have := qM_pos
          omega
        · omega
      rw [k4] at k1
      omega
    · rw [List.take_of_length_le hl]
  rw [h4, mdL_dv, h5] at h1
  rcases Int.lt_or_le 0 (nbr d 32) with h | h
  · have : nbr d 32 = 1 := by omega
    rw [this] at h1
    omega
  · have : nbr d 32 = 0 := by omega
    rw [this] at h1
    omega
theorem neg_ref {a : List Int} (ha : By a) : By (nout (restL (digL a)) 32) ∧ keyL (restL (nout (restL (digL a)) 32)) = bytesM ((pM - dv (digL a) % pM) % pM) := by
  obtain ⟨r1, r2, _⟩ := restL_spec (digL_by ha)
  have hp : 0 < pM := by have := qp; have := qM_pos; omega
  have h1 := nout_end r1 (by rw [r2]; exact Int.le_of_lt (Int.emod_lt_of_pos _ hp))
  have hb := nout_by (restL (digL a)) 32
  obtain ⟨s1, s2, _⟩ := restL_spec hb
  exact ⟨hb, by rw [keyL_eq s1, s2, h1, r2]⟩
/-- A small number's bytes. -/
theorem small_bytes (n : Int) (h : 0 ≤ n ∧ n ≤ 4294967295) : ((((zl 32).set 0 (n % 256)).set 1 (n / 256 % 256)).set 2 (n / 65536 % 256)).set 3 (n / 16777216) = bytesM n := by
  unfold bytesM zl
  apply List.ext_getElem?
  intro i
  rcases Nat.lt_or_ge i 32 with hi | hi
  · rw [List.getElem?_map, List.getElem?_range hi]
    rcases Nat.lt_or_ge i 4 with h4 | h4
    · match i, h4 with
      | 0, _ => simp
      | 1, _ => simp
      | 2, _ => simp
      | 3, _ => simp; omega
    · have hp : (256 : Int) ^ 4 ≤ 256 ^ i := pow_le' h4
      have e4 : (256 : Int) ^ 4 = 4294967296 := by decide
      have : n / 256 ^ i = 0 := Int.ediv_eq_zero_of_lt h.1 (by omega)
      rw [List.getElem?_set_ne (by omega), List.getElem?_set_ne (by omega), List.getElem?_set_ne (by omega), List.getElem?_set_ne (by omega)]
      rw [List.getElem?_replicate, if_pos hi]
      simp [this]
  · rw [List.getElem?_eq_none (by simp; omega), List.getElem?_eq_none (by simp; omega)]
end Go.Proofs.YtdokbnohlpbfbaaDoor
