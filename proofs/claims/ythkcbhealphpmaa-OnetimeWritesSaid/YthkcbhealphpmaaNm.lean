/-
  Numbers of five limbs of 26 bits, modulo 2^130 - 5.
-/
import Derived.Test.YthkcbhealphpmaaDt
namespace Go.Proofs.Ythkcbhealphpmaa
open Go Go.RowKit
set_option linter.unusedVariables false
set_option linter.unusedSimpArgs false
set_option maxRecDepth 100000
set_option maxHeartbeats 2000000

def v5 (l : List Int) : Int := l.getD 0 0 + l.getD 1 0 * 67108864 + l.getD 2 0 * 4503599627370496 + l.getD 3 0 * 302231454903657293676544 + l.getD 4 0 * 20282409603651670423947251286016
def pP : Int := 1361129467683753853853498429727072845819
theorem five {l : List Int} (h : l.length = 5) : ∃ a b c d e, l = [a, b, c, d, e] := by
  match l, h with
  | [a, b, c, d, e], _ => exact ⟨a, b, c, d, e, rfl⟩
theorem v5_eq (a b c d e : Int) : v5 [a, b, c, d, e] = a + b * 67108864 + c * 4503599627370496 + d * 302231454903657293676544 + e * 20282409603651670423947251286016 := rfl
/-- Each limb below its bound. -/
def Nm (l : List Int) : Prop := ∃ a b c d e : Int, l = [a, b, c, d, e] ∧ (0 ≤ a ∧ a < 67108864) ∧ (0 ≤ b ∧ b < 67108864) ∧ (0 ≤ c ∧ c < 67108864) ∧ (0 ≤ d ∧ d < 67108864) ∧ (0 ≤ e ∧ e < 67108864)
/-- All but the first, which may be five above it. -/
def Iv (l : List Int) : Prop := ∃ a b c d e : Int, l = [a, b, c, d, e] ∧ (0 ≤ a ∧ a < 67108869) ∧ (0 ≤ b ∧ b < 67108864) ∧ (0 ≤ c ∧ c < 67108864) ∧ (0 ≤ d ∧ d < 67108864) ∧ (0 ≤ e ∧ e < 67108864)
def Wi (l : List Int) : Prop := l.length = 5 ∧ ∀ k, 0 ≤ l.getD k 0 ∧ l.getD k 0 ≤ 4611686018427387904
theorem Nm.iv {l : List Int} (h : Nm l) : Iv l := by
  obtain ⟨a, b, c, d, e, rfl, h1, h2, h3, h4, h5⟩ := h
  exact ⟨a, b, c, d, e, rfl, by omega, h2, h3, h4, h5⟩
theorem Iv.wi {l : List Int} (h : Iv l) : Wi l := by
  obtain ⟨a, b, c, d, e, rfl, h1, h2, h3, h4, h5⟩ := h
  refine ⟨rfl, fun k => ?_⟩
  match k with
  | 0 => simp; omega
  | 1 => simp; omega
  | 2 => simp; omega
  | 3 => simp; omega
  | 4 => simp; omega
  | k + 5 => simp
theorem Iv.len {l : List Int} (h : Iv l) : l.length = 5 := h.wi.1
theorem Nm.len {l : List Int} (h : Nm l) : l.length = 5 := h.iv.len
theorem Iv.get {l : List Int} (h : Iv l) (i : Nat) : 0 ≤ l.getD i 0 ∧ l.getD i 0 < 67108869 := by
  obtain ⟨a, b, c, d, e, rfl, h1, h2, h3, h4, h5⟩ := h
  match i with
  | 0 => simp; omega
  | 1 => simp; omega
  | 2 => simp; omega
  | 3 => simp; omega
  | 4 => simp; omega
  | k + 5 => simp
theorem Nm.get {l : List Int} (h : Nm l) (i : Nat) : 0 ≤ l.getD i 0 ∧ l.getD i 0 < 67108864 := by
  obtain ⟨a, b, c, d, e, rfl, h1, h2, h3, h4, h5⟩ := h
  match i with
  | 0 => simp; omega
  | 1 => simp; omega
  | 2 => simp; omega
  | 3 => simp; omega
  | 4 => simp; omega
  | k + 5 => simp
theorem getD_setI (l : List Int) (i : Nat) (x : Int) (p : Nat) : (l.set i x).getD p 0 = if i = p ∧ p < l.length then x else l.getD p 0 := by
  rw [List.getD_eq_getElem?_getD, List.getElem?_set, List.getD_eq_getElem?_getD]
  by_cases h : i = p
  · subst h
    by_cases h2 : i < l.length
    · simp [h2]
    · simp [h2]
  · simp [h]
/-- Carries, limb by limb. -/
def carT (n : List Int) : Nat → List Int × Int
  | 0 => (n, 0)
  | i + 1 => ((carT n i).1.set i (((carT n i).1.getD i 0 + (carT n i).2) % 67108864), ((carT n i).1.getD i 0 + (carT n i).2) / 67108864)
theorem carT_len (n : List Int) : ∀ i, (carT n i).1.length = n.length
  | 0 => rfl
  | i + 1 => by rw [carT]; simp [carT_len n i]
theorem carT_bd {n : List Int} (h : Wi n) : ∀ i, (∀ k, 0 ≤ (carT n i).1.getD k 0 ∧ (carT n i).1.getD k 0 ≤ 4611686018427387904) ∧ 0 ≤ (carT n i).2 ∧ (carT n i).2 ≤ 137438953472
  | 0 => ⟨h.2, by simp [carT], by simp [carT]⟩
  | i + 1 => by
    obtain ⟨h1, h2, h3⟩ := carT_bd h i
    have h4 := h1 i
    rw [carT]
    refine ⟨fun k => ?_, by simp only []; omega, by simp only []; omega⟩
    simp only []
    rw [getD_setI]
    split
    · omega
    · exact h1 k
def carF (n : List Int) : List Int := (carT n 5).1.set 0 ((carT n 5).1.getD 0 0 + 5 * (carT n 5).2)
theorem carF_eq (a b c d e : Int) : carF [a, b, c, d, e] = [(a + 0) % 67108864 + 5 * ((e + (d + (c + (b + (a + 0) / 67108864) / 67108864) / 67108864) / 67108864) / 67108864), (b + (a + 0) / 67108864) % 67108864, (c + (b + (a + 0) / 67108864) / 67108864) % 67108864,
    (d + (c + (b + (a + 0) / 67108864) / 67108864) / 67108864) % 67108864, (e + (d + (c + (b + (a + 0) / 67108864) / 67108864) / 67108864) / 67108864) % 67108864] := rfl
theorem carF_p {l : List Int} (h : l.length = 5) : v5 (carF l) % pP = v5 l % pP := by
  obtain ⟨a, b, c, d, e, rfl⟩ := five h
  rw [carF_eq, v5_eq, v5_eq]
  unfold pP
  omega
/-- Two carries of wide limbs. -/
theorem car_two {l : List Int} (h : Wi l) : Iv (carF (carF l)) := by
  obtain ⟨a, b, c, d, e, rfl⟩ := five h.1
  have h0 := h.2 0
  have h1 := h.2 1
  have h2 := h.2 2
  have h3 := h.2 3
  have h4 := h.2 4
  simp only [List.getD_cons_zero, List.getD_cons_succ] at h0 h1 h2 h3 h4
  rw [carF_eq, carF_eq]
  obtain ⟨c1, e1⟩ : ∃ x, x = (a + 0) / 67108864 := ⟨_, rfl⟩
  rw [← e1]
  obtain ⟨c2, e2⟩ : ∃ x, x = (b + c1) / 67108864 := ⟨_, rfl⟩
  rw [← e2]
  obtain ⟨c3, e3⟩ : ∃ x, x = (c + c2) / 67108864 := ⟨_, rfl⟩
  rw [← e3]
  obtain ⟨c4, e4⟩ : ∃ x, x = (d + c3) / 67108864 := ⟨_, rfl⟩
  rw [← e4]
  obtain ⟨c5, e5⟩ : ∃ x, x = (e + c4) / 67108864 := ⟨_, rfl⟩
  rw [← e5]
  have b5 : 0 ≤ c5 ∧ c5 ≤ 137438953472 := by omega
  obtain ⟨A, eA⟩ : ∃ x, x = (a + 0) % 67108864 + 5 * c5 := ⟨_, rfl⟩
  obtain ⟨B, eB⟩ : ∃ x, x = (b + c1) % 67108864 := ⟨_, rfl⟩
  obtain ⟨C, eC⟩ : ∃ x, x = (c + c2) % 67108864 := ⟨_, rfl⟩
  obtain ⟨D, eD⟩ : ∃ x, x = (d + c3) % 67108864 := ⟨_, rfl⟩
  obtain ⟨E, eE⟩ : ∃ x, x = (e + c4) % 67108864 := ⟨_, rfl⟩
  rw [← eA, ← eB, ← eC, ← eD, ← eE]
  have hA : 0 ≤ A ∧ A ≤ 687261876223 := by omega
  have hB : 0 ≤ B ∧ B < 67108864 := by omega
  have hC : 0 ≤ C ∧ C < 67108864 := by omega
  have hD : 0 ≤ D ∧ D < 67108864 := by omega
  have hE : 0 ≤ E ∧ E < 67108864 := by omega
  clear eA eB eC eD eE e1 e2 e3 e4 e5 h0 h1 h2 h3 h4 h b5
  refine ⟨_, _, _, _, _, rfl, ?_, ?_, ?_, ?_, ?_⟩ <;> omega
theorem car_one {l : List Int} (h : Iv l) : Nm (carF l) := by
  obtain ⟨a, b, c, d, e, rfl, h1, h2, h3, h4, h5⟩ := h
  rw [carF_eq]
  refine ⟨_, _, _, _, _, rfl, ?_, ?_, ?_, ?_, ?_⟩ <;> omega
/-- The product's rows. -/
def innT (Y : Int) (r O : List Int) (i : Nat) : Nat → List Int
  | 0 => O
  | j + 1 => if i + j < 5 then (innT Y r O i j).set (i + j) ((innT Y r O i j).getD (i + j) 0 + Y * r.getD j 0) else (innT Y r O i j).set (i + j - 5) ((innT Y r O i j).getD (i + j - 5) 0 + 5 * (Y * r.getD j 0))
def outT (s p r : List Int) : Nat → List Int
  | 0 => zl 5
  | i + 1 => innT (s.getD i 0 + p.getD i 0) r (outT s p r i) i 5
theorem innT_len (Y : Int) (r O : List Int) (i : Nat) : ∀ j, (innT Y r O i j).length = O.length
  | 0 => rfl
  | j + 1 => by rw [innT]; split <;> simp [innT_len Y r O i j]
theorem outT_len (s p r : List Int) : ∀ i, (outT s p r i).length = 5
  | 0 => by simp [outT]
  | i + 1 => by rw [outT, innT_len, outT_len s p r i]
theorem prod_bd {Y x : Int} (hY : 0 ≤ Y ∧ Y ≤ 134217732) (hx : 0 ≤ x ∧ x < 67108864) : 0 ≤ Y * x ∧ Y * x ≤ 18014398509481984 := by
  have h1 : 0 ≤ Y * x := Int.mul_nonneg hY.1 hx.1
  have h2 : Y * x ≤ 134217732 * 67108864 := Int.mul_le_mul hY.2 (by omega) hx.1 (by omega)
  omega
theorem innT_bd {Y : Int} {r O : List Int} {i : Nat} {b : Int} (hb : 0 ≤ b) (hY : 0 ≤ Y ∧ Y ≤ 134217732) (hr : Nm r) (hO : ∀ k, 0 ≤ O.getD k 0 ∧ O.getD k 0 ≤ b) : ∀ j : Nat, ∀ k, 0 ≤ (innT Y r O i j).getD k 0 ∧ (innT Y r O i j).getD k 0 ≤ b + j * 90071992547409920
  | 0, k => by rw [innT]; have := hO k; omega
  | j + 1, k => by
    have ih := innT_bd (i := i) hb hY hr hO j
    have hx := prod_bd hY (hr.get j)
    rw [innT]
    split
    · rw [getD_setI]
      have h1 := ih (i + j)
      have h2 := ih k
      split <;> omega
    · rw [getD_setI]
      have h1 := ih (i + j - 5)
      have h2 := ih k
      split <;> omega
theorem outT_bd {s p r : List Int} (hs : Iv s) (hp : Nm p) (hr : Nm r) : ∀ i : Nat, ∀ k, 0 ≤ (outT s p r i).getD k 0 ∧ (outT s p r i).getD k 0 ≤ i * 450359962737049600
  | 0, k => by
    unfold outT zl
    rw [List.getD_eq_getElem?_getD, List.getElem?_replicate]
    split <;> simp
  | i + 1, k => by
    have ih := outT_bd hs hp hr i
    have h1 := hs.get i
    have h2 := hp.get i
    have := innT_bd (i := i) (b := i * 450359962737049600) (by omega) (Y := s.getD i 0 + p.getD i 0) (by omega) hr ih 5 k
    rw [outT]
    omega
theorem outT_wi {s p r : List Int} (hs : Iv s) (hp : Nm p) (hr : Nm r) : Wi (outT s p r 5) :=
  ⟨outT_len _ _ _ _, fun k => by have := outT_bd hs hp hr 5 k; omega⟩
theorem row_0 (Y p q r s t u v w x y : Int) : innT Y [p, q, r, s, t] [u, v, w, x, y] 0 5 = [u + Y * p, v + Y * q, w + Y * r, x + Y * s, y + Y * t] := rfl
theorem row_1 (Y p q r s t u v w x y : Int) : innT Y [p, q, r, s, t] [u, v, w, x, y] 1 5 = [u + 5 * (Y * t), v + Y * p, w + Y * q, x + Y * r, y + Y * s] := rfl
theorem row_2 (Y p q r s t u v w x y : Int) : innT Y [p, q, r, s, t] [u, v, w, x, y] 2 5 = [u + 5 * (Y * s), v + 5 * (Y * t), w + Y * p, x + Y * q, y + Y * r] := rfl
theorem row_3 (Y p q r s t u v w x y : Int) : innT Y [p, q, r, s, t] [u, v, w, x, y] 3 5 = [u + 5 * (Y * r), v + 5 * (Y * s), w + 5 * (Y * t), x + Y * p, y + Y * q] := rfl
theorem row_4 (Y p q r s t u v w x y : Int) : innT Y [p, q, r, s, t] [u, v, w, x, y] 4 5 = [u + 5 * (Y * q), v + 5 * (Y * r), w + 5 * (Y * s), x + 5 * (Y * t), y + Y * p] := rfl
theorem out_eq (a b c d e f g h i j p q r s t : Int) : outT [a, b, c, d, e] [f, g, h, i, j] [p, q, r, s, t] 5 =
    [0 + (a + f) * p + 5 * ((b + g) * t) + 5 * ((c + h) * s) + 5 * ((d + i) * r) + 5 * ((e + j) * q), 0 + (a + f) * q + (b + g) * p + 5 * ((c + h) * t) + 5 * ((d + i) * s) + 5 * ((e + j) * r), 0 + (a + f) * r + (b + g) * q + (c + h) * p + 5 * ((d + i) * t) + 5 * ((e + j) * s), 0 + (a + f) * s + (b + g) * r + (c + h) * q + (d + i) * p + 5 * ((e + j) * t), 0 + (a + f) * t + (b + g) * s + (c + h) * r + (d + i) * q + (e + j) * p] := by
  simp only [outT, List.getD_cons_zero, List.getD_cons_succ]
  rw [show zl 5 = [0, 0, 0, 0, 0] from rfl, row_0, row_1, row_2, row_3, row_4]
theorem out_p {s p r : List Int} (hs : s.length = 5) (hp : p.length = 5) (hr : r.length = 5) : v5 (outT s p r 5) % pP = (v5 s + v5 p) * v5 r % pP := by
  obtain ⟨a, b, c, d, e, rfl⟩ := five hs
  obtain ⟨f, g, h, i, j, rfl⟩ := five hp
  obtain ⟨p, q, r, s, t, rfl⟩ := five hr
  rw [out_eq]
  simp only [v5_eq]
  have key : ((a + b * 67108864 + c * 4503599627370496 + d * 302231454903657293676544 + e * 20282409603651670423947251286016) + (f + g * 67108864 + h * 4503599627370496 + i * 302231454903657293676544 + j * 20282409603651670423947251286016)) * (p + q * 67108864 + r * 4503599627370496 + s * 302231454903657293676544 + t * 20282409603651670423947251286016) =
      (0 + (a + f) * p + 5 * ((b + g) * t) + 5 * ((c + h) * s) + 5 * ((d + i) * r) + 5 * ((e + j) * q)) + (0 + (a + f) * q + (b + g) * p + 5 * ((c + h) * t) + 5 * ((d + i) * s) + 5 * ((e + j) * r)) * 67108864 + (0 + (a + f) * r + (b + g) * q + (c + h) * p + 5 * ((d + i) * t) + 5 * ((e + j) * s)) * 4503599627370496 + (0 + (a + f) * s + (b + g) * r + (c + h) * q + (d + i) * p + 5 * ((e + j) * t)) * 302231454903657293676544 + (0 + (a + f) * t + (b + g) * s + (c + h) * r + (d + i) * q + (e + j) * p) * 20282409603651670423947251286016 +
      pP * (((b + g) * t + (c + h) * s + (d + i) * r + (e + j) * q) + ((c + h) * t + (d + i) * s + (e + j) * r) * 67108864 + ((d + i) * t + (e + j) * s) * 4503599627370496 + ((e + j) * t) * 302231454903657293676544) := by
    unfold pP
    grind
  rw [key, Int.add_mul_emod_self_left]
/-- What take lays. -/
def takF (s p r : List Int) : List Int := carF (carF (outT s p r 5))
theorem carF_len (l : List Int) : (carF l).length = l.length := by unfold carF; simp [carT_len]
theorem takF_iv {s p r : List Int} (hs : Iv s) (hp : Nm p) (hr : Nm r) : Iv (takF s p r) := car_two (outT_wi hs hp hr)
theorem takF_p {s p r : List Int} (hs : Iv s) (hp : Nm p) (hr : Nm r) : v5 (takF s p r) % pP = (v5 s + v5 p) * v5 r % pP := by
  unfold takF
  rw [carF_p (by rw [carF_len, outT_len]), carF_p (outT_len _ _ _ _), out_p hs.len hp.len hr.len]
/-- Five added, to see whether the modulus is reached. -/
def ovT (n : List Int) : Nat → List Int
  | 0 => n.set 0 (n.getD 0 0 + 5)
  | i + 1 => ((ovT n i).set (i + 1) ((ovT n i).getD (i + 1) 0 + (ovT n i).getD i 0 / 67108864)).set i (((ovT n i).set (i + 1) ((ovT n i).getD (i + 1) 0 + (ovT n i).getD i 0 / 67108864)).getD i 0 % 67108864)
theorem ovT_len (n : List Int) : ∀ i, (ovT n i).length = n.length
  | 0 => by simp [ovT]
  | i + 1 => by rw [ovT]; simp [ovT_len n i]
theorem ovT_bd {n : List Int} (h : Nm n) : ∀ i, ∀ k, 0 ≤ (ovT n i).getD k 0 ∧ (ovT n i).getD k 0 ≤ 67108864 + 67108864
  | 0, k => by
    have h0 := h.get 0
    have hk := h.get k
    rw [ovT, getD_setI]
    split <;> omega
  | i + 1, k => by
    have ih := ovT_bd h i
    have h1 := ih (i + 1)
    have h2 := ih i
    have h3 := ih k
    have h4 : (ovT n i).getD (i + 1) 0 ≤ 67108864 := by
      have : ∀ i, ∀ k, i < k → (ovT n i).getD k 0 = n.getD k 0 := by
        intro i
        induction i with
        | zero => intro k hk; rw [ovT, getD_setI, if_neg (by omega)]
        | succ i ih => intro k hk; rw [ovT, getD_setI, if_neg (by omega), getD_setI, if_neg (by omega)]; exact ih k (by omega)
      rw [this i (i + 1) (by omega)]
      have := h.get (i + 1)
      omega
    rw [ovT, getD_setI, getD_setI, getD_setI]
    split
    · split <;> omega
    · split <;> omega
theorem ov_eq (a b c d e : Int) : ovT [a, b, c, d, e] 4 = [(a + 5) % 67108864, (b + (a + 5) / 67108864) % 67108864, (c + (b + (a + 5) / 67108864) / 67108864) % 67108864, (d + (c + (b + (a + 5) / 67108864) / 67108864) / 67108864) % 67108864,
    e + (d + (c + (b + (a + 5) / 67108864) / 67108864) / 67108864) / 67108864] := rfl
def redN (n : List Int) : List Int := if (ovT n 4).getD 4 0 / 67108864 = 0 then n else (ovT n 4).set 4 ((ovT n 4).getD 4 0 % 67108864)
theorem redN_ok {n : List Int} (h : Nm n) : Nm (redN n) ∧ v5 (redN n) = v5 n % pP := by
  obtain ⟨a, b, c, d, e, rfl, h1, h2, h3, h4, h5⟩ := h
  unfold redN
  rw [ov_eq]
  simp only [List.getD_cons_zero, List.getD_cons_succ, List.set_cons_zero, List.set_cons_succ]
  obtain ⟨c1, e1⟩ : ∃ x, x = (a + 5) / 67108864 := ⟨_, rfl⟩
  rw [← e1]
  obtain ⟨c2, e2⟩ : ∃ x, x = (b + c1) / 67108864 := ⟨_, rfl⟩
  rw [← e2]
  obtain ⟨c3, e3⟩ : ∃ x, x = (c + c2) / 67108864 := ⟨_, rfl⟩
  rw [← e3]
  obtain ⟨c4, e4⟩ : ∃ x, x = (d + c3) / 67108864 := ⟨_, rfl⟩
  rw [← e4]
  split
  · refine ⟨⟨a, b, c, d, e, rfl, h1, h2, h3, h4, h5⟩, ?_⟩
    rw [v5_eq]
    exact (Int.emod_eq_of_lt (by omega) (by unfold pP; omega)).symm
  · rename_i hne
    have h6 : e + c4 = 67108864 := by omega
    refine ⟨⟨_, _, _, _, _, rfl, by omega, by omega, by omega, by omega, by omega⟩, ?_⟩
    rw [v5_eq, v5_eq]
    have key : a + b * 67108864 + c * 4503599627370496 + d * 302231454903657293676544 + e * 20282409603651670423947251286016 = ((a + 5) % 67108864 + (b + c1) % 67108864 * 67108864 + (c + c2) % 67108864 * 4503599627370496 + (d + c3) % 67108864 * 302231454903657293676544 + (e + c4) % 67108864 * 20282409603651670423947251286016) + pP := by
      unfold pP; omega
    rw [key, Int.add_emod_right]
    exact (Int.emod_eq_of_lt (by omega) (by unfold pP; omega)).symm
def redF (n : List Int) : List Int := redN (carF (carF n))
theorem redF_ok {n : List Int} (h : Iv n) : Nm (redF n) ∧ v5 (redF n) = v5 n % pP := by
  have h1 := car_one h
  have h2 := car_one h1.iv
  have h3 := redN_ok h2
  refine ⟨h3.1, ?_⟩
  show v5 (redN _) = _
  rw [h3.2, carF_p h1.len, carF_p h.len]
end Go.Proofs.Ythkcbhealphpmaa
