/-
  The reference's rest modulo the prime, by digits.
-/
import Derived.Test.YtdokbnohlpbfbaaDoorDt
import Derived.Test.YtdokbnohlpbfbaaDoorFt
namespace Go.Proofs.YtdokbnohlpbfbaaDoor
open Go Go.RowKit
set_option linter.unusedVariables false
set_option linter.unusedSimpArgs false
set_option maxRecDepth 100000
set_option maxHeartbeats 2000000

/-- 2^255. -/
def qM : Int := 57896044618658097711785492504343953926634992332820282019728792003956564819968
theorem qM_eq : qM = 256 ^ 31 * 128 := by unfold qM; decide
theorem p31_32 : (256 : Int) ^ 32 = qM * 2 := by unfold qM; decide
theorem qp : pM = qM - 19 := by unfold pM qM; decide
theorem qM_pos : 1000 < qM := by unfold qM; decide
def hiR : List Int → List Int
  | [] => []
  | d :: l => (d / 128 + l.getD 0 0 % 128 * 2) :: hiR l
theorem hiR_len : ∀ l, (hiR l).length = l.length
  | [] => rfl
  | d :: l => by simp [hiR, hiR_len l]
theorem hiR_dv : ∀ {l : List Int}, By l → dv (hiR l) = dv l / 128
  | [], _ => by simp [hiR, dv]
  | d :: l, h => by
    have h1 := hiR_dv h.tail
    have h2 := h d (by simp)
    have h3 : dv l % 128 = l.getD 0 0 % 128 := by
      cases l with
      | nil => simp [dv]
      | cons e l => simp [dv]; omega
    simp only [hiR, dv, h1]
    omega
theorem hiR_by : ∀ {l : List Int}, By l → By (hiR l)
  | [], _ => By.nil
  | d :: l, h => by
    have h2 := h d (by simp)
    have h3 := h.tail.get 0
    exact By.cons (by omega) (hiR_by h.tail)
theorem hiR_get : ∀ (l : List Int) (j : Nat), j < l.length → (hiR l).getD j 0 = l.getD j 0 / 128 + l.getD (j + 1) 0 % 128 * 2
  | d :: l, 0, _ => by simp [hiR]
  | d :: l, j + 1, h => by
    have := hiR_get l j (by simpa using h)
    simpa [hiR] using this
def hiL (a : List Int) : List Int := hiR (a.drop 31)
def loL (a : List Int) : List Int := (List.range 32).map fun i => if i = 31 then a.getD i 0 % 128 else a.getD i 0
theorem loL_len (a : List Int) : (loL a).length = 32 := by simp [loL]
theorem loL_get (a : List Int) {i : Nat} (h : i < 32) : (loL a).getD i 0 = if i = 31 then a.getD i 0 % 128 else a.getD i 0 := by simp [loL, h]
theorem loL_by {a : List Int} (h : By a) : By (loL a) := by
  intro x hx
  unfold loL at hx
  obtain ⟨i, _, rfl⟩ := List.mem_map.1 hx
  have := h.get i
  split <;> omega
theorem take_loL (a : List Int) : ∀ i, i ≤ 31 → dv ((loL a).take i) = dv (a.take i)
  | 0, _ => by simp
  | i + 1, h => by
    rw [dv_take_succ, dv_take_succ, take_loL a i (by omega), loL_get a (by omega), if_neg (by omega)]
theorem loL_dv {a : List Int} (h : By a) (hl : 31 < a.length) : dv (loL a) = dv a % qM := by
  have h1 := dv_take_succ (loL a) 31
  rw [List.take_of_length_le (by rw [loL_len]; omega), take_loL a 31 (by omega), loL_get a (by omega), if_pos rfl] at h1
  have h2 := dv_split (l := a) (i := 31) (by omega)
  have h3 := dv_drop (l := a) (i := 31) hl
  have h4 := dv_bd (h.take 31)
  have h5 := h.get 31
  rw [List.length_take, Nat.min_eq_left (by omega)] at h4
  rw [h1, h2, h3, qM_eq]
  generalize dv (a.drop (31 + 1)) = W at *
  generalize dv (a.take 31) = t at *
  generalize a.getD 31 0 = d at *
  have e : ((256 : Int) ^ 31) = 452312848583266388373324160190187140051835877600158453279131187530910662656 := by decide
  rw [e] at *
  omega
theorem hiL_dv {a : List Int} (h : By a) (hl : 31 < a.length) : dv (hiL a) = dv a / qM := by
  have h2 := dv_split (l := a) (i := 31) (by omega)
  have h4 := dv_bd (h.take 31)
  rw [List.length_take, Nat.min_eq_left (by omega)] at h4
  unfold hiL
  rw [hiR_dv (h.drop 31), h2, qM_eq]
  generalize dv (a.drop 31) = W at *
  generalize dv (a.take 31) = t at *
  have e : ((256 : Int) ^ 31) = 452312848583266388373324160190187140051835877600158453279131187530910662656 := by decide
  rw [e] at *
  omega
def nextL (a : List Int) : List Int := plusL (loL a) (timesL (hiL a) [19])
theorem by19 : By [19] := By.cons (by omega) By.nil
theorem hiL_by {a : List Int} (h : By a) : By (hiL a) := hiR_by (h.drop 31)
theorem hiL_len (a : List Int) : (hiL a).length = a.length - 31 := by unfold hiL; rw [hiR_len, List.length_drop]
theorem nextL_by (a : List Int) : By (nextL a) := plusL_by _ _
theorem nextL_dv {a : List Int} (h : By a) (hl : 31 < a.length) : dv (nextL a) = dv a % qM + dv a / qM * 19 := by
  unfold nextL
  rw [plusL_dv (loL_by h) (timesL_by (hiL_by h) by19), timesL_dv (hiL_by h) by19, loL_dv h hl, hiL_dv h hl]
  simp [dv]
theorem nextL_len (a : List Int) (hl : 31 < a.length) : 32 ≤ (nextL a).length ∧ (nextL a).length ≤ max 33 a.length := by
  unfold nextL
  have := plusN_le (loL a) (timesL (hiL a) [19])
  rw [loL_len, timesL_len, hiL_len] at this
  rw [plusL_len]
  simp at this
  omega
theorem len_of_big {a : List Int} (h : By a) (hq : qM ≤ dv a) : 31 < a.length := by
  have h1 := dv_bd h
  rcases Nat.lt_or_ge 31 a.length with h2 | h2
  · exact h2
  · have h3 := pow_le' h2
    rw [qM_eq] at hq
    have := q256_pos 31
    omega
/-- Once less the prime, when it is reached. -/
def subL (b : List Int) : List Int := b.set 31 (b.getD 31 0 - 128)
def restF : Nat → List Int → List Int
  | 0, a => a
  | f + 1, a => if qM ≤ dv a then restF f (nextL a) else if pM ≤ dv a then subL (plusL a [19]) else a
def restL (a : List Int) : List Int := restF ((dv a).toNat + 1) a
theorem next_less {a : List Int} (h : By a) (hq : qM ≤ dv a) : 0 ≤ dv (nextL a) ∧ dv (nextL a) < dv a ∧ dv (nextL a) % pM = dv a % pM := by
  have hl := len_of_big h hq
  rw [nextL_dv h hl, qp]
  have h2 := qM_pos
  generalize dv a = X at *
  have e1 : X = X / qM * qM + X % qM := by rw [Int.mul_comm]; exact (Int.mul_ediv_add_emod X qM).symm
  have e2 : 0 ≤ X % qM := Int.emod_nonneg _ (by omega)
  have e3 : 1 ≤ X / qM := by
    have : qM / qM ≤ X / qM := Int.ediv_le_ediv (by omega) hq
    rwa [Int.ediv_self (by omega)] at this
  generalize hY : X / qM = Y at *
  generalize X % qM = R at *
  refine ⟨by omega, ?_, ?_⟩
  · have : Y * 19 < Y * qM := Int.mul_lt_mul_of_pos_left (by omega) (by omega)
    omega
  · have e4 : X = R + Y * 19 + Y * (qM - 19) := by rw [Int.mul_sub]; omega
    rw [e4, Int.add_mul_emod_self_right]
theorem sub_spec {a : List Int} (h : By a) (hq : dv a < qM) (hp : pM ≤ dv a) : By (subL (plusL a [19])) ∧ dv (subL (plusL a [19])) = dv a - pM ∧ 31 < (plusL a [19]).length ∧ qM ≤ dv (plusL a [19]) ∧ 128 ≤ (plusL a [19]).getD 31 0 ∧ (plusL a [19]).getD 31 0 ≤ 255 := by
  have hb := plusL_by a [19]
  have hd := plusL_dv h by19
  have e19 : dv [19] = 19 := by simp [dv]
  rw [e19] at hd
  have h1 := qp
  have h2 := qM_pos
  have hbig : qM ≤ dv (plusL a [19]) := by omega
  have hl := len_of_big hb hbig
  have hg := dv_get hb 31
  have h3 := hb.get 31
  have e : ((256 : Int) ^ 31) = 452312848583266388373324160190187140051835877600158453279131187530910662656 := by decide
  have eq : qM = 57896044618658097711785492504343953926634992332820282019728792003956564819968 := rfl
  have h4 : 128 ≤ (plusL a [19]).getD 31 0 := by
    rw [hg, e]
    omega
  refine ⟨hb.set (by omega), ?_, hl, hbig, h4, h3.2⟩
  unfold subL
  rw [dv_set _ hl, hd, e]
  omega
theorem restF_spec : ∀ (f : Nat) (a : List Int), By a → (dv a).toNat < f → By (restF f a) ∧ dv (restF f a) = dv a % pM ∧ (restF f a).length ≤ max 33 a.length + 1 ∧ (0 < a.length → 0 < (restF f a).length)
  | 0, a, _, h => by omega
  | f + 1, a, ha, hf => by
    have hbd := dv_bd ha
    have h1 := qp
    have h2 := qM_pos
    simp only [restF]
    split
    · rename_i hq
      have hl := len_of_big ha hq
      obtain ⟨n1, n2, n3⟩ := next_less ha hq
      have n4 := nextL_len a hl
      obtain ⟨k1, k2, k3, k4⟩ := restF_spec f (nextL a) (nextL_by a) (by omega)
      exact ⟨k1, by rw [k2, n3], by omega, fun _ => k4 (by omega)⟩
    · rename_i hq
      split
      · rename_i hp
        obtain ⟨s1, s2, s3, _⟩ := sub_spec ha (by omega) hp
        have hn := plusN_le a [19]
        refine ⟨s1, ?_, ?_, fun _ => ?_⟩
        · rw [s2, ← Int.sub_emod_right, Int.emod_eq_of_lt (by omega) (by omega)]
        · unfold subL; rw [List.length_set, plusL_len]; simp at hn; omega
        · unfold subL; rw [List.length_set]; omega
      · rename_i hp
        exact ⟨ha, by rw [Int.emod_eq_of_lt (by omega) (by omega)], by omega, fun h => h⟩
theorem restL_spec {a : List Int} (ha : By a) : By (restL a) ∧ dv (restL a) = dv a % pM ∧ (restL a).length ≤ max 33 a.length + 1 ∧ (0 < a.length → 0 < (restL a).length) := restF_spec _ a ha (by omega)
theorem restL_same {a : List Int} (ha : By a) (h : dv a < pM) : restL a = a := by
  have h1 := qp
  unfold restL
  simp only [restF]
  rw [if_neg (by omega), if_neg (by omega)]
/-- The bytes of 32 and their number. -/
theorem le_dv (k : List Int) : ∀ i, le k i = dv (k.take i)
  | 0 => by simp [le, dv]
  | i + 1 => by rw [le, dv_take_succ, le_dv k i, Int.mul_comm]
def digL (k : List Int) : List Int := k.set 31 (k.getD 31 0 % 128)
theorem digL_by {k : List Int} (h : By k) : By (digL k) := h.set (by have := h.get 31; omega)
theorem digL_dv {k : List Int} (h : By k) (hl : k.length = 32) : dv (digL k) = le k 32 % qM := by
  rw [le_dv, List.take_of_length_le (by omega)]
  unfold digL
  rw [dv_set _ (by omega)]
  have h2 := dv_split (l := k) (i := 31) (by omega)
  have h3 := dv_drop (l := k) (i := 31) (by omega)
  have h4 := dv_bd (h.take 31)
  have h5 := h.get 31
  rw [List.length_take, Nat.min_eq_left (by omega)] at h4
  rw [List.drop_of_length_le (i := 31 + 1) (by omega)] at h3
  simp only [dv] at h3
  rw [h2, h3, qM_eq]
  generalize dv (k.take 31) = t at *
  generalize k.getD 31 0 = d at *
  have e : ((256 : Int) ^ 31) = 452312848583266388373324160190187140051835877600158453279131187530910662656 := by decide
  rw [e] at *
  omega
/-- The first 32 digits. -/
def keyL (a : List Int) : List Int := (List.range 32).map fun i => a.getD i 0
theorem keyL_len (a : List Int) : (keyL a).length = 32 := by simp [keyL]
theorem keyL_at (a : List Int) {i : Nat} (h : i < 32) : (keyL a).getD i 0 = a.getD i 0 := by simp [keyL, h]
theorem keyL_eq {a : List Int} (h : By a) : keyL a = bytesM (dv a) := by
  unfold keyL bytesM
  exact List.map_congr_left fun i _ => dv_get h i
theorem ofM {k : List Int} (h : By k) (hl : k.length = 32) : keyL (restL (digL k)) = bytesM (fromM k) := by
  obtain ⟨r1, r2, _⟩ := restL_spec (digL_by h)
  rw [keyL_eq r1, r2, digL_dv h hl]
  rfl
theorem bytes_le {X : Int} (hX : El X) : le (bytesM X) 32 = X := by
  have h : ∀ i, i ≤ 32 → le (bytesM X) i = X % 256 ^ i := by
    intro i
    induction i with
    | zero => intro _; simp [le, Int.emod_one]
    | succ i ih =>
      intro hi
      rw [le, ih (by omega), bytesM_at X i (by omega), q256, Int.mul_comm (X / 256 ^ i % 256)]
      have hp := q256_pos i
      have e := emod_div X (256 ^ i) 256 hp
      have e2 := Int.mul_ediv_add_emod (X % (256 ^ i * 256)) (256 ^ i)
      rw [e] at e2
      have e3 : X % (256 ^ i * 256) % 256 ^ i = X % 256 ^ i := Int.emod_emod_of_dvd _ (Int.dvd_mul_right _ _)
      rw [e3] at e2
      omega
  rw [h 32 (Nat.le_refl _)]
  unfold El at hX
  rw [show (256 : Int) ^ 32 = 115792089237316195423570985008687907853269984665640564039457584007913129639936 by decide]
  omega
theorem dig_bytes {X : Int} (hX : El X) : dv (digL (bytesM X)) = X := by
  rw [digL_dv (bytesM_by X) (bytesM_len X), bytes_le hX]
  unfold El at hX
  unfold qM
  omega
theorem plus_ref {a b : List Int} (ha : By a) (hb : By b) (la : a.length = 32) (lb : b.length = 32) : keyL (restL (plusL (digL a) (digL b))) = bytesM ((dv (digL a) + dv (digL b)) % pM) := by
  obtain ⟨r1, r2, _⟩ := restL_spec (plusL_by (digL a) (digL b))
  rw [keyL_eq r1, r2, plusL_dv (digL_by ha) (digL_by hb)]
theorem times_ref {a b : List Int} (ha : By a) (hb : By b) (la : a.length = 32) (lb : b.length = 32) : keyL (restL (timesL (digL a) (digL b))) = bytesM (dv (digL a) * dv (digL b) % pM) := by
  obtain ⟨r1, r2, _⟩ := restL_spec (timesL_by (digL_by ha) (digL_by hb))
  rw [keyL_eq r1, r2, timesL_dv (digL_by ha) (digL_by hb)]
end Go.Proofs.YtdokbnohlpbfbaaDoor
