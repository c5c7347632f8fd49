/-
  The reference's rest modulo 2^130 - 5, by digits.
-/
import Derived.Test.YthkcbhealphpmaaDt
import Derived.Test.YthkcbhealphpmaaNe
namespace Go.Proofs.Ythkcbhealphpmaa
open Go Go.RowKit
set_option linter.unusedVariables false
set_option linter.unusedSimpArgs false
set_option maxRecDepth 100000
set_option maxHeartbeats 2000000

/-- 2^130. -/
def qP : Int := 1361129467683753853853498429727072845824
theorem qP_eq : qP = 256 ^ 16 * 4 := by unfold qP; decide
theorem p16_17 : (256 : Int) ^ 17 = qP * 64 := by unfold qP; decide
theorem qp : pP = qP - 5 := by unfold pP qP; decide
theorem qP_pos : 1000 < qP := by unfold qP; decide
def hiR : List Int → List Int
  | [] => []
  | d :: l => (d / 4 + l.getD 0 0 % 4 * 64) :: hiR l
theorem hiR_len : ∀ l, (hiR l).length = l.length
  | [] => rfl
  | d :: l => by simp [hiR, hiR_len l]
theorem hiR_dv : ∀ {l : List Int}, By l → dv (hiR l) = dv l / 4
  | [], _ => by simp [hiR, dv]
  | d :: l, h => by
    have h1 := hiR_dv h.tail
    have h2 := h d (by simp)
    have h3 : dv l % 4 = l.getD 0 0 % 4 := by
      cases l with
      | nil => simp [dv]
      | cons e l => simp [dv]; omega
    simp only [hiR, dv, h1]
    omega
theorem hiR_by : ∀ {l : List Int}, By l → By (hiR l)
  | [], _ => By.nil
  | d :: l, h => by
    have h2 := h d (by simp)
    have h3 := h.tail.get 0
    exact By.cons (by omega) (hiR_by h.tail)
theorem hiR_get : ∀ (l : List Int) (j : Nat), j < l.length → (hiR l).getD j 0 = l.getD j 0 / 4 + l.getD (j + 1) 0 % 4 * 64
  | d :: l, 0, _ => by simp [hiR]
  | d :: l, j + 1, h => by
    have := hiR_get l j (by simpa using h)
    simpa [hiR] using this
def hiL (a : List Int) : List Int := hiR (a.drop 16)
def loL (a : List Int) : List Int := (List.range 17).map fun i => if i = 16 then a.getD i 0 % 4 else a.getD i 0
theorem loL_len (a : List Int) : (loL a).length = 17 := by simp [loL]
theorem loL_get (a : List Int) {i : Nat} (h : i < 17) : (loL a).getD i 0 = if i = 16 then a.getD i 0 % 4 else a.getD i 0 := by simp [loL, h]
theorem loL_by {a : List Int} (h : By a) : By (loL a) := by
  intro x hx
  unfold loL at hx
  obtain ⟨i, _, rfl⟩ := List.mem_map.1 hx
  have := h.get i
  split <;> omega
theorem take_loL (a : List Int) : ∀ i, i ≤ 16 → dv ((loL a).take i) = dv (a.take i)
  | 0, _ => by simp
  | i + 1, h => by
    rw [dv_take_succ, dv_take_succ, take_loL a i (by omega), loL_get a (by omega), if_neg (by omega)]
theorem loL_dv {a : List Int} (h : By a) (hl : 16 < a.length) : dv (loL a) = dv a % qP := by
  have h1 := dv_take_succ (loL a) 16
  rw [List.take_of_length_le (by rw [loL_len]; omega), take_loL a 16 (by omega), loL_get a (by omega), if_pos rfl] at h1
  have h2 := dv_split (l := a) (i := 16) (by omega)
  have h3 := dv_drop (l := a) (i := 16) hl
  have h4 := dv_bd (h.take 16)
  have h5 := h.get 16
  rw [List.length_take, Nat.min_eq_left (by omega)] at h4
  rw [h1, h2, h3, qP_eq]
  generalize dv (a.drop (16 + 1)) = W at *
  generalize dv (a.take 16) = t at *
  generalize a.getD 16 0 = d at *
  have e : ((256 : Int) ^ 16) = 340282366920938463463374607431768211456 := by decide
  rw [e] at *
  omega
theorem hiL_dv {a : List Int} (h : By a) (hl : 16 < a.length) : dv (hiL a) = dv a / qP := by
  have h2 := dv_split (l := a) (i := 16) (by omega)
  have h4 := dv_bd (h.take 16)
  rw [List.length_take, Nat.min_eq_left (by omega)] at h4
  unfold hiL
  rw [hiR_dv (h.drop 16), h2, qP_eq]
  generalize dv (a.drop 16) = W at *
  generalize dv (a.take 16) = t at *
  have e : ((256 : Int) ^ 16) = 340282366920938463463374607431768211456 := by decide
  rw [e] at *
  omega
def nextL (a : List Int) : List Int := plusL (loL a) (timesL (hiL a) [5])
theorem by5 : By [5] := By.cons (by omega) By.nil
theorem hiL_by {a : List Int} (h : By a) : By (hiL a) := hiR_by (h.drop 16)
theorem hiL_len (a : List Int) : (hiL a).length = a.length - 16 := by unfold hiL; rw [hiR_len, List.length_drop]
theorem nextL_by (a : List Int) : By (nextL a) := plusL_by _ _
theorem nextL_dv {a : List Int} (h : By a) (hl : 16 < a.length) : dv (nextL a) = dv a % qP + dv a / qP * 5 := by
  unfold nextL
  rw [plusL_dv (loL_by h) (timesL_by (hiL_by h) by5), timesL_dv (hiL_by h) by5, loL_dv h hl, hiL_dv h hl]
  simp [dv]
theorem nextL_len (a : List Int) (hl : 16 < a.length) : 17 ≤ (nextL a).length ∧ (nextL a).length ≤ max 18 a.length := by
  unfold nextL
  have := plusN_le (loL a) (timesL (hiL a) [5])
  rw [loL_len, timesL_len, hiL_len] at this
  rw [plusL_len]
  simp at this
  omega
theorem len_of_big {a : List Int} (h : By a) (hq : qP ≤ dv a) : 16 < a.length := by
  have h1 := dv_bd h
  rcases Nat.lt_or_ge 16 a.length with h2 | h2
  · exact h2
  · have h3 := pow_le' h2
    rw [qP_eq] at hq
    have := q256_pos 16
    omega
/-- Once less the prime, when it is reached. -/
def subL (b : List Int) : List Int := b.set 16 (b.getD 16 0 - 4)
def restF : Nat → List Int → List Int
  | 0, a => a
  | f + 1, a => if qP ≤ dv a then restF f (nextL a) else if pP ≤ dv a then subL (plusL a [5]) else a
def restL (a : List Int) : List Int := restF ((dv a).toNat + 1) a
theorem next_less {a : List Int} (h : By a) (hq : qP ≤ dv a) : 0 ≤ dv (nextL a) ∧ dv (nextL a) < dv a ∧ dv (nextL a) % pP = dv a % pP := by
  have hl := len_of_big h hq
  rw [nextL_dv h hl, qp]
  have h2 := qP_pos
  generalize dv a = X at *
  have e1 : X = X / qP * qP + X % qP := by rw [Int.mul_comm]; exact (Int.mul_ediv_add_emod X qP).symm
  have e2 : 0 ≤ X % qP := Int.emod_nonneg _ (by omega)
  have e3 : 1 ≤ X / qP := by
    have : qP / qP ≤ X / qP := Int.ediv_le_ediv (by omega) hq
    rwa [Int.ediv_self (by omega)] at this
  generalize hY : X / qP = Y at *
  generalize X % qP = R at *
  refine ⟨by omega, ?_, ?_⟩
  · have : Y * 5 < Y * qP := Int.mul_lt_mul_of_pos_left (by omega) (by omega)
    omega
  · have e4 : X = R + Y * 5 + Y * (qP - 5) := by rw [Int.mul_sub]; omega
    rw [e4, Int.add_mul_emod_self_right]
theorem sub_spec {a : List Int} (h : By a) (hq : dv a < qP) (hp : pP ≤ dv a) : By (subL (plusL a [5])) ∧ dv (subL (plusL a [5])) = dv a - pP ∧ 16 < (plusL a [5]).length ∧ qP ≤ dv (plusL a [5]) ∧ 4 ≤ (plusL a [5]).getD 16 0 ∧ (plusL a [5]).getD 16 0 ≤ 255 := by
  have hb := plusL_by a [5]
  have hd := plusL_dv h by5
  have e5 : dv [5] = 5 := by simp [dv]
  rw [e5] at hd
  have h1 := qp
  have h2 := qP_pos
  have hbig : qP ≤ dv (plusL a [5]) := by omega
  have hl := len_of_big hb hbig
  have hg := dv_get hb 16
  have h3 := hb.get 16
  have e : ((256 : Int) ^ 16) = 340282366920938463463374607431768211456 := by decide
  have eq : qP = 1361129467683753853853498429727072845824 := rfl
  have h4 : 4 ≤ (plusL a [5]).getD 16 0 := by
    rw [hg, e]
    omega
  refine ⟨hb.set (by omega), ?_, hl, hbig, h4, h3.2⟩
  unfold subL
  rw [dv_set _ hl, hd, e]
  omega
theorem restF_spec : ∀ (f : Nat) (a : List Int), By a → (dv a).toNat < f → By (restF f a) ∧ dv (restF f a) = dv a % pP ∧ (restF f a).length ≤ max 18 a.length + 1 ∧ (0 < a.length → 0 < (restF f a).length)
  | 0, a, _, h => by omega
  | f + 1, a, ha, hf => by
    have hbd := dv_bd ha
    have h1 := qp
    have h2 := qP_pos
    simp only [restF]
    split
    · rename_i hq
      have hl := len_of_big ha hq
      obtain ⟨n1, n2, n3⟩ := next_less ha hq
      have n4 := nextL_len a hl
      obtain ⟨k1, k2, k3, k4⟩ := restF_spec f (nextL a) (nextL_by a) (by omega)
      exact ⟨k1, by rw [k2, n3], by omega, fun _ => k4 (by omega)⟩
    · rename_i hq
      split
      · rename_i hp
        obtain ⟨s1, s2, s3, _⟩ := sub_spec ha (by omega) hp
        have hn := plusN_le a [5]
        refine ⟨s1, ?_, ?_, fun _ => ?_⟩
        · rw [s2, ← Int.sub_emod_right, Int.emod_eq_of_lt (by omega) (by omega)]
        · unfold subL; rw [List.length_set, plusL_len]; simp at hn; omega
        · unfold subL; rw [List.length_set]; omega
      · rename_i hp
        exact ⟨ha, by rw [Int.emod_eq_of_lt (by omega) (by omega)], by omega, fun h => h⟩
theorem restL_spec {a : List Int} (ha : By a) : By (restL a) ∧ dv (restL a) = dv a % pP ∧ (restL a).length ≤ max 18 a.length + 1 ∧ (0 < a.length → 0 < (restL a).length) := restF_spec _ a ha (by omega)
theorem restL_same {a : List Int} (ha : By a) (h : dv a < pP) : restL a = a := by
  have h1 := qp
  unfold restL
  simp only [restF]
  rw [if_neg (by omega), if_neg (by omega)]
end Go.Proofs.Ythkcbhealphpmaa
