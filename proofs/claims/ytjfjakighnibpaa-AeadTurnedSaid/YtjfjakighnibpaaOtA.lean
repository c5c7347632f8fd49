/-
  Numbers of five limbs of 26 bits, modulo 2^130 - 5.
  Words of bytes, numbers of words, carries: walked.
  The reduced number, its halves; a block taken.
  The cells of a tag under way.
  A block taken: (sum + part) r, carried.
  A tag under way, told by what was written.
  (*Poly).Write: parts taken.
  r's bytes: what the mask keeps.
  New, walked.
-/
import Derived.Test.YtjfjakighnibpaaDig
import Derived.Lib.Strings
namespace Go.Proofs.Ytjfjakighnibpaa
section
open Go Go.RowKit
set_option linter.unusedVariables false
set_option linter.unusedSimpArgs false
set_option maxRecDepth 100000
set_option maxHeartbeats 2000000

def v5 (l : List Int) : Int := l.getD 0 0 + l.getD 1 0 * 67108864 + l.getD 2 0 * 4503599627370496 + l.getD 3 0 * 302231454903657293676544 + l.getD 4 0 * 20282409603651670423947251286016
def pP : Int := 1361129467683753853853498429727072845819
theorem five {l : List Int} (h : l.length = 5) : ∃ a b c d e, l = [a, b, c, d, e] := by
  match l, h with
  | [a, b, c, d, e], _ => exact ⟨a, b, c, d, e, rfl⟩
theorem v5_eq (a b c d e : Int) : v5 [a, b, c, d, e] = a + b * 67108864 + c * 4503599627370496 + d * 302231454903657293676544 + e * 20282409603651670423947251286016 := rfl
/-- Each limb below its bound. -/
def Nm (l : List Int) : Prop := ∃ a b c d e : Int, l = [a, b, c, d, e] ∧ (0 ≤ a ∧ a < 67108864) ∧ (0 ≤ b ∧ b < 67108864) ∧ (0 ≤ c ∧ c < 67108864) ∧ (0 ≤ d ∧ d < 67108864) ∧ (0 ≤ e ∧ e < 67108864)
/-- All but the first, which may be five above it. -/
def Iv (l : List Int) : Prop := ∃ a b c d e : Int, l = [a, b, c, d, e] ∧ (0 ≤ a ∧ a < 67108869) ∧ (0 ≤ b ∧ b < 67108864) ∧ (0 ≤ c ∧ c < 67108864) ∧ (0 ≤ d ∧ d < 67108864) ∧ (0 ≤ e ∧ e < 67108864)
def Wi (l : List Int) : Prop := l.length = 5 ∧ ∀ k, 0 ≤ l.getD k 0 ∧ l.getD k 0 ≤ 4611686018427387904
theorem Nm.iv {l : List Int} (h : Nm l) : Iv l := by
  obtain ⟨a, b, c, d, e, rfl, h1, h2, h3, h4, h5⟩ := h
  exact ⟨a, b, c, d, e, rfl, by omega, h2, h3, h4, h5⟩
theorem Iv.wi {l : List Int} (h : Iv l) : Wi l := by
  obtain ⟨a, b, c, d, e, rfl, h1, h2, h3, h4, h5⟩ := h
  refine ⟨rfl, fun k => ?_⟩
  match k with
  | 0 => simp; omega
  | 1 => simp; omega
  | 2 => simp; omega
  | 3 => simp; omega
  | 4 => simp; omega
  | k + 5 => simp
theorem Iv.len {l : List Int} (h : Iv l) : l.length = 5 := h.wi.1
theorem Nm.len {l : List Int} (h : Nm l) : l.length = 5 := h.iv.len
theorem Iv.get {l : List Int} (h : Iv l) (i : Nat) : 0 ≤ l.getD i 0 ∧ l.getD i 0 < 67108869 := by
  obtain ⟨a, b, c, d, e, rfl, h1, h2, h3, h4, h5⟩ := h
  match i with
  | 0 => simp; omega
  | 1 => simp; omega
  | 2 => simp; omega
  | 3 => simp; omega
  | 4 => simp; omega
  | k + 5 => simp
theorem Nm.get {l : List Int} (h : Nm l) (i : Nat) : 0 ≤ l.getD i 0 ∧ l.getD i 0 < 67108864 := by
  obtain ⟨a, b, c, d, e, rfl, h1, h2, h3, h4, h5⟩ := h
  match i with
  | 0 => simp; omega
  | 1 => simp; omega
  | 2 => simp; omega
  | 3 => simp; omega
  | 4 => simp; omega
  | k + 5 => simp
theorem getD_setI (l : List Int) (i : Nat) (x : Int) (p : Nat) : (l.set i x).getD p 0 = if i = p ∧ p < l.length then x else l.getD p 0 := by
  rw [List.getD_eq_getElem?_getD, List.getElem?_set, List.getD_eq_getElem?_getD]
  by_cases h : i = p
  · subst h
    by_cases h2 : i < l.length
    · simp [h2]
    · simp [h2]
  · simp [h]
/-- Carries, limb by limb. -/
def carT (n : List Int) : Nat → List Int × Int
  | 0 => (n, 0)
  | i + 1 => ((carT n i).1.set i (((carT n i).1.getD i 0 + (carT n i).2) % 67108864), ((carT n i).1.getD i 0 + (carT n i).2) / 67108864)
theorem carT_len (n : List Int) : ∀ i, (carT n i).1.length = n.length
  | 0 => rfl
  | i + 1 => by rw [carT]; simp [carT_len n i]
theorem carT_bd {n : List Int} (h : Wi n) : ∀ i, (∀ k, 0 ≤ (carT n i).1.getD k 0 ∧ (carT n i).1.getD k 0 ≤ 4611686018427387904) ∧ 0 ≤ (carT n i).2 ∧ (carT n i).2 ≤ 137438953472
  | 0 => ⟨h.2, by simp [carT], by simp [carT]⟩
  | i + 1 => by
    obtain ⟨h1, h2, h3⟩ := carT_bd h i
    have h4 := h1 i
    rw [carT]
    refine ⟨fun k => ?_, by simp only []; omega, by simp only []; omega⟩
    simp only []
    rw [getD_setI]
    split
    · omega
    · exact h1 k
def carF (n : List Int) : List Int := (carT n 5).1.set 0 ((carT n 5).1.getD 0 0 + 5 * (carT n 5).2)
theorem carF_eq (a b c d e : Int) : carF [a, b, c, d, e] = [(a + 0) % 67108864 + 5 * ((e + (d + (c + (b + (a + 0) / 67108864) / 67108864) / 67108864) / 67108864) / 67108864), (b + (a + 0) / 67108864) % 67108864, (c + (b + (a + 0) / 67108864) / 67108864) % 67108864,
    (d + (c + (b + (a + 0) / 67108864) / 67108864) / 67108864) % 67108864, (e + (d + (c + (b + (a + 0) / 67108864) / 67108864) / 67108864) / 67108864) % 67108864] := rfl
theorem carF_p {l : List Int} (h : l.length = 5) : v5 (carF l) % pP = v5 l % pP := by
  obtain ⟨a, b, c, d, e, rfl⟩ := five h
  rw [carF_eq, v5_eq, v5_eq]
  unfold pP
  omega
/-- Two carries of wide limbs. -/
theorem car_two {l : List Int} (h : Wi l) : Iv (carF (carF l)) := by
  obtain ⟨a, b, c, d, e, rfl⟩ := five h.1
  have h0 := h.2 0
  have h1 := h.2 1
  have h2 := h.2 2
  have h3 := h.2 3
  have h4 := h.2 4
  simp only [List.getD_cons_zero, List.getD_cons_succ] at h0 h1 h2 h3 h4
  rw [carF_eq, carF_eq]
  obtain ⟨c1, e1⟩ : ∃ x, x = (a + 0) / 67108864 := ⟨_, rfl⟩
  rw [← e1]
  obtain ⟨c2, e2⟩ : ∃ x, x = (b + c1) / 67108864 := ⟨_, rfl⟩
  rw [← e2]
  obtain ⟨c3, e3⟩ : ∃ x, x = (c + c2) / 67108864 := ⟨_, rfl⟩
  rw [← e3]
  obtain ⟨c4, e4⟩ : ∃ x, x = (d + c3) / 67108864 := ⟨_, rfl⟩
  rw [← e4]
  obtain ⟨c5, e5⟩ : ∃ x, x = (e + c4) / 67108864 := ⟨_, rfl⟩
  rw [← e5]
  have b5 : 0 ≤ c5 ∧ c5 ≤ 137438953472 := by omega
  obtain ⟨A, eA⟩ : ∃ x, x = (a + 0) % 67108864 + 5 * c5 := ⟨_, rfl⟩
  obtain ⟨B, eB⟩ : ∃ x, x = (b + c1) % 67108864 := ⟨_, rfl⟩
  obtain ⟨C, eC⟩ : ∃ x, x = (c + c2) % 67108864 := ⟨_, rfl⟩
  obtain ⟨D, eD⟩ : ∃ x, x = (d + c3) % 67108864 := ⟨_, rfl⟩
  obtain ⟨E, eE⟩ : ∃ x, x = (e + c4) % 67108864 := ⟨_, rfl⟩
  rw [← eA, ← eB, ← eC, ← eD, ← eE]
  have hA : 0 ≤ A ∧ A ≤ 687261876223 := by omega
  have hB : 0 ≤ B ∧ B < 67108864 := by omega
  have hC : 0 ≤ C ∧ C < 67108864 := by omega
  have hD : 0 ≤ D ∧ D < 67108864 := by omega
  have hE : 0 ≤ E ∧ E < 67108864 := by omega
  clear eA eB eC eD eE e1 e2 e3 e4 e5 h0 h1 h2 h3 h4 h b5
  refine ⟨_, _, _, _, _, rfl, ?_, ?_, ?_, ?_, ?_⟩ <;> omega
theorem car_one {l : List Int} (h : Iv l) : Nm (carF l) := by
  obtain ⟨a, b, c, d, e, rfl, h1, h2, h3, h4, h5⟩ := h
  rw [carF_eq]
  refine ⟨_, _, _, _, _, rfl, ?_, ?_, ?_, ?_, ?_⟩ <;> omega
/-- The product's rows. -/
def innT (Y : Int) (r O : List Int) (i : Nat) : Nat → List Int
  | 0 => O
  | j + 1 => if i + j < 5 then (innT Y r O i j).set (i + j) ((innT Y r O i j).getD (i + j) 0 + Y * r.getD j 0) else (innT Y r O i j).set (i + j - 5) ((innT Y r O i j).getD (i + j - 5) 0 + 5 * (Y * r.getD j 0))
def outT (s p r : List Int) : Nat → List Int
  | 0 => zl 5
  | i + 1 => innT (s.getD i 0 + p.getD i 0) r (outT s p r i) i 5
theorem innT_len (Y : Int) (r O : List Int) (i : Nat) : ∀ j, (innT Y r O i j).length = O.length
  | 0 => rfl
  | j + 1 => by rw [innT]; split <;> simp [innT_len Y r O i j]
theorem outT_len (s p r : List Int) : ∀ i, (outT s p r i).length = 5
  | 0 => by simp [outT]
  | i + 1 => by rw [outT, innT_len, outT_len s p r i]
theorem prod_bd {Y x : Int} (hY : 0 ≤ Y ∧ Y ≤ 134217732) (hx : 0 ≤ x ∧ x < 67108864) : 0 ≤ Y * x ∧ Y * x ≤ 18014398509481984 := by
  have h1 : 0 ≤ Y * x := Int.mul_nonneg hY.1 hx.1
  have h2 : Y * x ≤ 134217732 * 67108864 := Int.mul_le_mul hY.2 (by omega) hx.1 (by omega)
  omega
theorem innT_bd {Y : Int} {r O : List Int} {i : Nat} {b : Int} (hb : 0 ≤ b) (hY : 0 ≤ Y ∧ Y ≤ 134217732) (hr : Nm r) (hO : ∀ k, 0 ≤ O.getD k 0 ∧ O.getD k 0 ≤ b) : ∀ j : Nat, ∀ k, 0 ≤ (innT Y r O i j).getD k 0 ∧ (innT Y r O i j).getD k 0 ≤ b + j * 90071992547409920
  | 0, k => by rw [innT]; have := hO k; omega
  | j + 1, k => by
    have ih := innT_bd (i := i) hb hY hr hO j
    have hx := prod_bd hY (hr.get j)
    rw [innT]
    split
    · rw [getD_setI]
      have h1 := ih (i + j)
      have h2 := ih k
      split <;> omega
    · rw [getD_setI]
      have h1 := ih (i + j - 5)
      have h2 := ih k
      split <;> omega
theorem outT_bd {s p r : List Int} (hs : Iv s) (hp : Nm p) (hr : Nm r) : ∀ i : Nat, ∀ k, 0 ≤ (outT s p r i).getD k 0 ∧ (outT s p r i).getD k 0 ≤ i * 450359962737049600
  | 0, k => by
    unfold outT zl
    rw [List.getD_eq_getElem?_getD, List.getElem?_replicate]
    split <;> simp
  | i + 1, k => by
    have ih := outT_bd hs hp hr i
    have h1 := hs.get i
    have h2 := hp.get i
    have := innT_bd (i := i) (b := i * 450359962737049600) (by omega) (Y := s.getD i 0 + p.getD i 0) (by omega) hr ih 5 k
    rw [outT]
    omega
theorem outT_wi {s p r : List Int} (hs : Iv s) (hp : Nm p) (hr : Nm r) : Wi (outT s p r 5) :=
  ⟨outT_len _ _ _ _, fun k => by have := outT_bd hs hp hr 5 k; omega⟩
theorem row_0 (Y p q r s t u v w x y : Int) : innT Y [p, q, r, s, t] [u, v, w, x, y] 0 5 = [u + Y * p, v + Y * q, w + Y * r, x + Y * s, y + Y * t] := rfl
theorem row_1 (Y p q r s t u v w x y : Int) : innT Y [p, q, r, s, t] [u, v, w, x, y] 1 5 = [u + 5 * (Y * t), v + Y * p, w + Y * q, x + Y * r, y + Y * s] := rfl
theorem row_2 (Y p q r s t u v w x y : Int) : innT Y [p, q, r, s, t] [u, v, w, x, y] 2 5 = [u + 5 * (Y * s), v + 5 * (Y * t), w + Y * p, x + Y * q, y + Y * r] := rfl
theorem row_3 (Y p q r s t u v w x y : Int) : innT Y [p, q, r, s, t] [u, v, w, x, y] 3 5 = [u + 5 * (Y * r), v + 5 * (Y * s), w + 5 * (Y * t), x + Y * p, y + Y * q] := rfl
theorem row_4 (Y p q r s t u v w x y : Int) : innT Y [p, q, r, s, t] [u, v, w, x, y] 4 5 = [u + 5 * (Y * q), v + 5 * (Y * r), w + 5 * (Y * s), x + 5 * (Y * t), y + Y * p] := rfl
theorem out_eq (a b c d e f g h i j p q r s t : Int) : outT [a, b, c, d, e] [f, g, h, i, j] [p, q, r, s, t] 5 =
    [0 + (a + f) * p + 5 * ((b + g) * t) + 5 * ((c + h) * s) + 5 * ((d + i) * r) + 5 * ((e + j) * q), 0 + (a + f) * q + (b + g) * p + 5 * ((c + h) * t) + 5 * ((d + i) * s) + 5 * ((e + j) * r), 0 + (a + f) * r + (b + g) * q + (c + h) * p + 5 * ((d + i) * t) + 5 * ((e + j) * s), 0 + (a + f) * s + (b + g) * r + (c + h) * q + (d + i) * p + 5 * ((e + j) * t), 0 + (a + f) * t + (b + g) * s + (c + h) * r + (d + i) * q + (e + j) * p] := by
  simp only [outT, List.getD_cons_zero, List.getD_cons_succ]
  rw [show zl 5 = [0, 0, 0, 0, 0] from rfl, row_0, row_1, row_2, row_3, row_4]
theorem out_p {s p r : List Int} (hs : s.length = 5) (hp : p.length = 5) (hr : r.length = 5) : v5 (outT s p r 5) % pP = (v5 s + v5 p) * v5 r % pP := by
  obtain ⟨a, b, c, d, e, rfl⟩ := five hs
  obtain ⟨f, g, h, i, j, rfl⟩ := five hp
  obtain ⟨p, q, r, s, t, rfl⟩ := five hr
  rw [out_eq]
  simp only [v5_eq]
  have key : ((a + b * 67108864 + c * 4503599627370496 + d * 302231454903657293676544 + e * 20282409603651670423947251286016) + (f + g * 67108864 + h * 4503599627370496 + i * 302231454903657293676544 + j * 20282409603651670423947251286016)) * (p + q * 67108864 + r * 4503599627370496 + s * 302231454903657293676544 + t * 20282409603651670423947251286016) =
      (0 + (a + f) * p + 5 * ((b + g) * t) + 5 * ((c + h) * s) + 5 * ((d + i) * r) + 5 * ((e + j) * q)) + (0 + (a + f) * q + (b + g) * p + 5 * ((c + h) * t) + 5 * ((d + i) * s) + 5 * ((e + j) * r)) * 67108864 + (0 + (a + f) * r + (b + g) * q + (c + h) * p + 5 * ((d + i) * t) + 5 * ((e + j) * s)) * 4503599627370496 + (0 + (a + f) * s + (b + g) * r + (c + h) * q + (d + i) * p + 5 * ((e + j) * t)) * 302231454903657293676544 + (0 + (a + f) * t + (b + g) * s + (c + h) * r + (d + i) * q + (e + j) * p) * 20282409603651670423947251286016 +
      pP * (((b + g) * t + (c + h) * s + (d + i) * r + (e + j) * q) + ((c + h) * t + (d + i) * s + (e + j) * r) * 67108864 + ((d + i) * t + (e + j) * s) * 4503599627370496 + ((e + j) * t) * 302231454903657293676544) := by
    unfold pP
    grind
  rw [key, Int.add_mul_emod_self_left]
/-- What take lays. -/
def takF (s p r : List Int) : List Int := carF (carF (outT s p r 5))
theorem carF_len (l : List Int) : (carF l).length = l.length := by unfold carF; simp [carT_len]
theorem takF_iv {s p r : List Int} (hs : Iv s) (hp : Nm p) (hr : Nm r) : Iv (takF s p r) := car_two (outT_wi hs hp hr)
theorem takF_p {s p r : List Int} (hs : Iv s) (hp : Nm p) (hr : Nm r) : v5 (takF s p r) % pP = (v5 s + v5 p) * v5 r % pP := by
  unfold takF
  rw [carF_p (by rw [carF_len, outT_len]), carF_p (outT_len _ _ _ _), out_p hs.len hp.len hr.len]
/-- Five added, to see whether the modulus is reached. -/
def ovT (n : List Int) : Nat → List Int
  | 0 => n.set 0 (n.getD 0 0 + 5)
  | i + 1 => ((ovT n i).set (i + 1) ((ovT n i).getD (i + 1) 0 + (ovT n i).getD i 0 / 67108864)).set i (((ovT n i).set (i + 1) ((ovT n i).getD (i + 1) 0 + (ovT n i).getD i 0 / 67108864)).getD i 0 % 67108864)
theorem ovT_len (n : List Int) : ∀ i, (ovT n i).length = n.length
  | 0 => by simp [ovT]
  | i + 1 => by rw [ovT]; simp [ovT_len n i]
theorem ovT_bd {n : List Int} (h : Nm n) : ∀ i, ∀ k, 0 ≤ (ovT n i).getD k 0 ∧ (ovT n i).getD k 0 ≤ 67108864 + 67108864
  | 0, k => by
    have h0 := h.get 0
    have hk := h.get k
    rw [ovT, getD_setI]
    split <;> omega
  | i + 1, k => by
    have ih := ovT_bd h i
    have h1 := ih (i + 1)
    have h2 := ih i
    have h3 := ih k
    have h4 : (ovT n i).getD (i + 1) 0 ≤ 67108864 := by
      have : ∀ i, ∀ k, i < k → (ovT n i).getD k 0 = n.getD k 0 := by
        intro i
        induction i with
        | zero => intro k hk; rw [ovT, getD_setI, if_neg (by omega)]
        | succ i ih => intro k hk; rw [ovT, getD_setI, if_neg (by omega), getD_setI, if_neg (by omega)]; exact ih k (by omega)
      rw [this i (i + 1) (by omega)]
      have := h.get (i + 1)
      omega
    rw [ovT, getD_setI, getD_setI, getD_setI]
    split
    · split <;> omega
    · split <;> omega
theorem ov_eq (a b c d e : Int) : ovT [a, b, c, d, e] 4 = [(a + 5) % 67108864, (b + (a + 5) / 67108864) % 67108864, (c + (b + (a + 5) / 67108864) / 67108864) % 67108864, (d + (c + (b + (a + 5) / 67108864) / 67108864) / 67108864) % 67108864,
    e + (d + (c + (b + (a + 5) / 67108864) / 67108864) / 67108864) / 67108864] := rfl
def redN (n : List Int) : List Int := if (ovT n 4).getD 4 0 / 67108864 = 0 then n else (ovT n 4).set 4 ((ovT n 4).getD 4 0 % 67108864)
theorem redN_ok {n : List Int} (h : Nm n) : Nm (redN n) ∧ v5 (redN n) = v5 n % pP := by
  obtain ⟨a, b, c, d, e, rfl, h1, h2, h3, h4, h5⟩ := h
  unfold redN
  rw [ov_eq]
  simp only [List.getD_cons_zero, List.getD_cons_succ, List.set_cons_zero, List.set_cons_succ]
  obtain ⟨c1, e1⟩ : ∃ x, x = (a + 5) / 67108864 := ⟨_, rfl⟩
  rw [← e1]
  obtain ⟨c2, e2⟩ : ∃ x, x = (b + c1) / 67108864 := ⟨_, rfl⟩
  rw [← e2]
  obtain ⟨c3, e3⟩ : ∃ x, x = (c + c2) / 67108864 := ⟨_, rfl⟩
  rw [← e3]
  obtain ⟨c4, e4⟩ : ∃ x, x = (d + c3) / 67108864 := ⟨_, rfl⟩
  rw [← e4]
  split
  · refine ⟨⟨a, b, c, d, e, rfl, h1, h2, h3, h4, h5⟩, ?_⟩
    rw [v5_eq]
    exact (Int.emod_eq_of_lt (by omega) (by unfold pP; omega)).symm
  · rename_i hne
    have h6 : e + c4 = 67108864 := by omega
    refine ⟨⟨_, _, _, _, _, rfl, by omega, by omega, by omega, by omega, by omega⟩, ?_⟩
    rw [v5_eq, v5_eq]
    have key : a + b * 67108864 + c * 4503599627370496 + d * 302231454903657293676544 + e * 20282409603651670423947251286016 = ((a + 5) % 67108864 + (b + c1) % 67108864 * 67108864 + (c + c2) % 67108864 * 4503599627370496 + (d + c3) % 67108864 * 302231454903657293676544 + (e + c4) % 67108864 * 20282409603651670423947251286016) + pP := by
      unfold pP; omega
    rw [key, Int.add_emod_right]
    exact (Int.emod_eq_of_lt (by omega) (by unfold pP; omega)).symm
def redF (n : List Int) : List Int := redN (carF (carF n))
theorem redF_ok {n : List Int} (h : Iv n) : Nm (redF n) ∧ v5 (redF n) = v5 n % pP := by
  have h1 := car_one h
  have h2 := car_one h1.iv
  have h3 := redN_ok h2
  refine ⟨h3.1, ?_⟩
  show v5 (redN _) = _
  rw [h3.2, carF_p h1.len, carF_p h.len]
end

section
open Go Go.RowKit
set_option linter.unusedVariables false
set_option linter.unusedSimpArgs false
set_option maxRecDepth 100000
set_option maxHeartbeats 4000000

theorem wrapU64 (n : Int) : IntKind.u64.wrap n = n % 18446744073709551616 := by simp [IntKind.wrap, IntKind.bits, IntKind.signed]
theorem or_nat (w c b n : Nat) (hc : c = b * 2 ^ n) (hw : w < 2 ^ n) (h : w + c < 18446744073709551616) : bitsOf .or .u64 w c = (w : Int) + c := by
  have e2 : ((BitVec.ofInt 64 (w : Int)) ||| (BitVec.ofInt 64 (c : Int))).toNat = w + c := by
    rw [BitVec.toNat_or, BitVec.toNat_ofInt, BitVec.toNat_ofInt]
    have a1 : ((w : Int) % ((2 ^ 64 : Nat) : Int)).toNat = w := by omega
    have a2 : ((c : Int) % ((2 ^ 64 : Nat) : Int)).toNat = c := by omega
    rw [a1, a2, hc, Nat.mul_comm b, Nat.or_comm, ← Nat.two_pow_add_eq_or_of_lt hw]
    omega
  show IntKind.u64.wrap (((BitVec.ofInt 64 (w : Int)) ||| (BitVec.ofInt 64 (c : Int))).toNat : Int) = _
  rw [e2, wrapU64]
  omega
theorem or_add {w b : Int} {n : Nat} (hw : 0 ≤ w ∧ w < 2 ^ n) (hb : 0 ≤ b) (h : w + b * 2 ^ n < 18446744073709551616) : bitsOf .or .u64 w (b * 2 ^ n) = w + b * 2 ^ n := by
  obtain ⟨w, rfl⟩ := Int.eq_ofNat_of_zero_le hw.1
  obtain ⟨b, rfl⟩ := Int.eq_ofNat_of_zero_le hb
  have e3 : ((2 ^ n : Nat) : Int) = 2 ^ n := by simp
  have hw2 : w < 2 ^ n := by have := hw.2; omega
  obtain ⟨c, hc⟩ : ∃ c, c = b * 2 ^ n := ⟨_, rfl⟩
  have e1 : ((b : Int) * 2 ^ n) = (c : Int) := by rw [hc]; simp
  rw [e1] at h ⊢
  exact or_nat w c b n hc hw2 (by omega)
/-- An or whose parts don't meet. -/
theorem or_at {w c : Int} (n : Nat) (m : Int) (hm : m = 2 ^ n) (hw : 0 ≤ w ∧ w < m) (hc : 0 ≤ c ∧ c % m = 0) (h : w + c < 18446744073709551616) : bitsOf .or .u64 w c = w + c := by
  have h1 : c = c / m * 2 ^ n := by
    rw [← hm]
    have := Int.emod_add_mul_ediv c m
    rw [hc.2, Int.mul_comm] at this
    omega
  have hm0 : 0 < m := by omega
  have h2 : 0 ≤ c / m := Int.ediv_nonneg hc.1 (by omega)
  rw [h1] at h
  have := or_add (w := w) (b := c / m) (n := n) (by rw [← hm]; exact hw) h2 h
  rw [← h1] at this
  exact this
theorem and26 (w : Int) (hw : 0 ≤ w ∧ w < 18446744073709551616) : bitsOf .and .u64 w 67108863 = w % 67108864 := by
  obtain ⟨w, rfl⟩ := Int.eq_ofNat_of_zero_le hw.1
  have e2 : ((BitVec.ofInt 64 (w : Int)) &&& (BitVec.ofInt 64 67108863)).toNat = w % 67108864 := by
    rw [BitVec.toNat_and, BitVec.toNat_ofInt, BitVec.toNat_ofInt]
    have a1 : ((w : Int) % ((2 ^ 64 : Nat) : Int)).toNat = w := by omega
    have a2 : ((67108863 : Int) % ((2 ^ 64 : Nat) : Int)).toNat = 2 ^ 26 - 1 := by decide
    rw [a1, a2, Nat.and_two_pow_sub_one_eq_mod]
  show IntKind.u64.wrap (((BitVec.ofInt 64 (w : Int)) &&& (BitVec.ofInt 64 67108863)).toNat : Int) = _
  rw [e2, wrapU64]
  omega
theorem word_step {l : List Int} (hb : By l) {i : Nat} (hi : i < 8) (h8 : 8 ≤ l.length) : 0 ≤ dv (l.take i) ∧ 0 ≤ l.getD i 0 * 2 ^ (8 * i) ∧ dv (l.take i) + l.getD i 0 * 2 ^ (8 * i) < 18446744073709551616 ∧ bitsOf .or .u64 (dv (l.take i)) (l.getD i 0 * 2 ^ (8 * i)) = dv (l.take (i + 1)) := by
  have h1 := dv_bd (hb.take i)
  have h2 := dv_bd (hb.take (i + 1))
  rw [List.length_take, Nat.min_eq_left (by omega)] at h1 h2
  have h3 := hb.get i
  have hp : (256 : Int) ^ i = 2 ^ (8 * i) := by rw [Int.pow_mul]; rfl
  have h4 := dv_take_succ l i
  have h5 : (256 : Int) ^ (i + 1) ≤ 256 ^ 8 := pow_le' (by omega)
  rw [show (256 : Int) ^ 8 = 18446744073709551616 by decide] at h5
  rw [hp] at h1 h4
  rw [Int.mul_comm] at h4
  have hpp : (0 : Int) < 2 ^ (8 * i) := Int.pow_pos (by omega)
  have h6 : 0 ≤ l.getD i 0 * 2 ^ (8 * i) := Int.mul_nonneg h3.1 (by omega)
  refine ⟨h1.1, h6, by omega, ?_⟩
  rw [h4]
  exact or_add h1 h3.1 (by omega)
attribute [local irreducible] dv
attribute [local simp] wb_bool wb_undef XL_nil XL_cons XLc_val XLc_call step1_eq stepW_t stepW_f stepC_n stepC_s stepX_s xop_eq xopR_s xopR_n wantedA_eq wantedG_n wantedG_s plain1_int plain1_bool plain1_string bits_i64 bits_u64 bits_u32 bits_u16 bits_u8 xeqA xarr allK_iv num_iv calleeOf xread xeff xbin xint xnil xun xstr xload xconv xpart xfield xfieldAddr xindexAddr xindex bnd asInt? xslice xlen xmin xmax xbuild xfill xappend xcopy xcells eval_tmp eval_const put_at put_none fr0_at cells_agg cells_int cells_bool cells_string cells_ptr cells_slice notTuple tab iv_all hget_app hget_app0 hget_cons0 hget_cons set_app set_app0 setR setR_one QL_nil QL_cons QLc_val stepQ_t stepQ_f stepQC_n stepQC_s stepQX_s SL_nil SL_cons SLc_val stepS_t stepS_f ltT ltF leT leF eqT eqF ltTn ltFn leTn leFn eqTn eqFn beqT beqF bneT bneF wi64 wu64 wu32 wu16 wu8 tmodP tdivP hgetL hgetNe hgetEq setL nums_def nums_len Nat.succ_le_of_lt List.getElem?_cons_zero List.getElem?_cons_succ Option.getD_some Int.toNat_add Int.toNat_mul agB agI agS agP agL agA okB okI okS okP okSl okA
theorem word_rc {H : AH} {γ : Nat → Option Nat} {l : List Int} {v : Value} (hb : By l) (hv : SlV H v (iv .u8 l)) (h8 : 8 ≤ l.length) : AC Try.prog H.length γ 35 #[v] H (fun v' _ => v' = .int .u64 (dv (l.take 8))) := by
  have hz : dv (l.take 0) = 0 := by rw [List.take_zero]; unfold dv; rfl
  refine ac_of_aw Try.func35 rfl Try.ntmps35 Try.results35 (by simp) ?_
  refine aw_seq ?_
  (refine aw_ops (by kernel_rfl) (fun K hK => ?_); simp (disch := first | omega | (simp only [List.length_set, List.length_append, List.length_cons, List.length_nil, iv_length, zl_length]; try omega; done)) [-getElem?_pos, -getElem?_neg]; refine hK _ _ ?_; clear hK K)
  refine aw_seq ?_
  (refine aw_ops (by kernel_rfl) (fun K hK => ?_); simp (disch := first | omega | (simp only [List.length_set, List.length_append, List.length_cons, List.length_nil, iv_length, zl_length]; try omega; done)) [-getElem?_pos, -getElem?_neg]; refine hK _ _ ?_; clear hK K)
  refine aw_seq ?_
  refine aw_seq ?_
  (refine aw_ops (by kernel_rfl) (fun K hK => ?_); simp (disch := first | omega | (simp only [List.length_set, List.length_append, List.length_cons, List.length_nil, iv_length, zl_length]; try omega; done)) [-getElem?_pos, -getElem?_neg]; refine hK _ _ ?_; clear hK K)
  refine aw_block ?_
  refine aw_loop (fun q α H' => ∃ i : Nat, i + q = 8 ∧ α 5 = .int .i64 (i : Nat) ∧ α 0 = v ∧ α 3 = .int .u64 (dv (l.take i)) ∧ H' = H) 8 ?_ ?_
  · exact ⟨0, by omega, by (first | (simp [put_at, put_none, fr0_at]; done) | rfl), by (first | (simp [put_at, put_none, fr0_at]; done) | rfl), by rw [hz]; (first | (simp [put_at, put_none, fr0_at]; done) | rfl), rfl⟩
  rintro q α H' ⟨i, hiq, h5, h0, h3, rfl⟩
  refine aw_seq ?_
  by_cases hi : i < 8
  · obtain ⟨w0, w1, w2, w3⟩ := word_step hb hi h8
    obtain ⟨p, e1, e2⟩ := hv.at (P := Try.prog) (t := 38) (e := 5) rfl rfl rfl rfl (show i < l.length by omega)
    have e2' := e2 H' (fun _ _ => rfl)
    have hbi := hb.get i
    generalize dv (l.take i) = w at *
    obtain ⟨w', hw'⟩ : ∃ w', w' = dv (l.take (i + 1)) := ⟨_, rfl⟩
    rw [← hw'] at w3
    generalize l.getD i 0 = b at *
    (refine aw_ops (by kernel_rfl) (fun K hK => ?_); simp (disch := first | omega | (simp only [List.length_set, List.length_append, List.length_cons, List.length_nil, iv_length, zl_length]; try omega; done)) [-getElem?_pos, -getElem?_neg, h5]; refine hK _ _ ?_; clear hK K)
    refine aw_seq ?_
    refine aw_t (by (first | (simp [eval_tmp, put_at, hi]; done) | (simp [eval_tmp, put_at, hi]; omega))) (by kernel_rfl) ?_
    refine aw_skip ?_
    refine aw_seq ?_
    refine aw_block ?_
    refine aw_seq ?_
    (refine aw_ops (by kernel_rfl) (fun K hK => ?_); simp (disch := first | omega | (simp only [List.length_set, List.length_append, List.length_cons, List.length_nil, iv_length, zl_length]; try omega; done)) [-getElem?_pos, -getElem?_neg, h5]; refine hK _ _ ?_; clear hK K)
    (refine aw_ops (by kernel_rfl) (fun K hK => ?_); simp (disch := first | omega | (simp only [List.length_set, List.length_append, List.length_cons, List.length_nil, iv_length, zl_length]; try omega; done)) [-getElem?_pos, -getElem?_neg, -xindexAddr, -xload, h0, h3, e1, e2', w3]; refine hK _ _ ?_; clear hK K)
    (refine aw_ops (by kernel_rfl) (fun K hK => ?_); simp (disch := first | omega | (simp only [List.length_set, List.length_append, List.length_cons, List.length_nil, iv_length, zl_length]; try omega; done)) [-getElem?_pos, -getElem?_neg, h5]; refine hK _ _ ?_; clear hK K)
    exact ⟨q - 1, by omega, i + 1, by omega, by (first | (simp [put_at, put_none, fr0_at]; done) | rfl), by (first | (simp [put_at, put_none, fr0_at, h0]; done) | rfl), by rw [← hw']; (first | (simp [put_at, put_none, fr0_at]; done) | rfl), rfl⟩
  · (refine aw_ops (by kernel_rfl) (fun K hK => ?_); simp (disch := first | omega | (simp only [List.length_set, List.length_append, List.length_cons, List.length_nil, iv_length, zl_length]; try omega; done)) [-getElem?_pos, -getElem?_neg, h5]; refine hK _ _ ?_; clear hK K)
    refine aw_seq ?_
    refine aw_f (by (first | (simp [eval_tmp, put_at, hi]; done) | (simp [eval_tmp, put_at, hi]; omega))) (by kernel_rfl) ?_
    refine aw_exit ?_
    obtain rfl : i = 8 := by omega
    refine aw_seq ?_
    (refine aw_ops (by kernel_rfl) (fun K hK => ?_); simp (disch := first | omega | (simp only [List.length_set, List.length_append, List.length_cons, List.length_nil, iv_length, zl_length]; try omega; done)) [-getElem?_pos, -getElem?_neg, h3]; refine hK _ _ ?_; clear hK K)
    (refine aw_ret ?_; simp (disch := first | omega | (simp only [List.length_set, List.length_append, List.length_cons, List.length_nil, iv_length, zl_length]; try omega; done)) [-getElem?_pos, -getElem?_neg, thenQ_ret, inBlockQ_ret, RQ, resL, resV])
theorem make_vc {lo hi top : Int} (hlo : 0 ≤ lo ∧ lo < 18446744073709551616) (hhi : 0 ≤ hi ∧ hi < 18446744073709551616) (ht : 0 ≤ top ∧ top ≤ 1) : ∃ l, VC Try.prog 34 #[.int .u64 lo, .int .u64 hi, .int .u64 top] (.agg (iv .u64 l).toArray) ∧ Nm l ∧ v5 l = lo + hi * 18446744073709551616 + top * 340282366920938463463374607431768211456 := by
  have a0 := and26 lo hlo
  have a1 := and26 (lo / 67108864) (by omega)
  have a3 := and26 (hi / 16384) (by omega)
  have o2 := or_at (w := lo / 4503599627370496) (c := hi % 4503599627370496 * 4096) 12 4096 rfl (by omega) (by omega) (by omega)
  have a2 := and26 (lo / 4503599627370496 + hi % 4503599627370496 * 4096) (by omega)
  have o4 := or_at (w := hi / 1099511627776) (c := top * 16777216) 24 16777216 rfl (by omega) (by omega) (by omega)
  have w2 : (hi * 4096) % 18446744073709551616 = hi % 4503599627370496 * 4096 := by omega
  refine ⟨[lo % 67108864, lo / 67108864 % 67108864, (lo / 4503599627370496 + hi % 4503599627370496 * 4096) % 67108864, hi / 16384 % 67108864, hi / 1099511627776 + top * 16777216], ?_, ⟨_, _, _, _, _, rfl, by omega, by omega, by omega, by omega, by omega⟩, by rw [v5_eq]; omega⟩
  refine vc_of_ac (by simp [pv_iv, pv_int, pv_bool, pv_string, pv_tup2, pv_tup3, iv_plain, p2_int, p2_bool, p2_string]) (by simp [pv_iv, pv_int, pv_bool, pv_string, pv_tup2, pv_tup3, iv_plain, p2_int, p2_bool, p2_string]) ?_
  refine ac_of_aw Try.func34 rfl Try.ntmps34 Try.results34 (by simp) ?_
  refine aw_seq ?_
  (refine aw_ops (by kernel_rfl) (fun K hK => ?_); simp (disch := first | omega | (simp only [List.length_set, List.length_append, List.length_cons, List.length_nil, iv_length, zl_length]; try omega; done)) [-getElem?_pos, -getElem?_neg]; refine hK _ _ ?_; clear hK K)
  refine aw_seq ?_
  (refine aw_ops (by kernel_rfl) (fun K hK => ?_); simp (disch := first | omega | (simp only [List.length_set, List.length_append, List.length_cons, List.length_nil, iv_length, zl_length]; try omega; done)) [-getElem?_pos, -getElem?_neg, a0]; refine hK _ _ ?_; clear hK K)
  (refine aw_ret ?_; simp (disch := first | omega | (simp only [List.length_set, List.length_append, List.length_cons, List.length_nil, iv_length, zl_length]; try omega; done)) [-getElem?_pos, -getElem?_neg, thenQ_ret, inBlockQ_ret, RQ, resL, resV])
  rw [Int.fdiv_eq_ediv_of_nonneg _ (by omega : (0 : Int) ≤ 67108864), Int.fdiv_eq_ediv_of_nonneg _ (by omega : (0 : Int) ≤ 4503599627370496), Int.fdiv_eq_ediv_of_nonneg _ (by omega : (0 : Int) ≤ 16384), Int.fdiv_eq_ediv_of_nonneg _ (by omega : (0 : Int) ≤ 1099511627776), wrapU64, w2, o2, a1, a2, a3, o4]
  rfl
theorem five_set (l : List Int) (h : l.length = 5) : setR (iv .u64 (zl 5)) 0 (iv .u64 l) = iv .u64 l := setR_all _ _ (by simp [h])
theorem five_over (l m : List Int) (h : l.length = 5) (hm : m.length = 5) : setR (iv .u64 m) 0 (iv .u64 l) = iv .u64 l := setR_all _ _ (by simp [h, hm])
theorem five_take (l : List Int) (h : l.length = 5) : (iv .u64 l).take 5 = iv .u64 l := List.take_of_length_le (by simp [h])
theorem carried_vc {n : List Int} (hn : Wi n) : VC Try.prog 49 #[.agg (iv .u64 n).toArray] (.agg (iv .u64 (carF n)).toArray) := by
  have hst := fun i => carT_bd hn i
  have hln := fun i => (carT_len n i).trans hn.1
  have hF : carF n = (carT n 5).1.set 0 ((carT n 5).1.getD 0 0 + 5 * (carT n 5).2) := rfl
  have hFl : (carF n).length = 5 := (carF_len n).trans hn.1
  have hT0 : carT n 0 = (n, 0) := by unfold carT; rfl
  have hTs : ∀ i, (carT n (i + 1)).1 = (carT n i).1.set i (((carT n i).1.getD i 0 + (carT n i).2) % 67108864) ∧ (carT n (i + 1)).2 = ((carT n i).1.getD i 0 + (carT n i).2) / 67108864 := fun i => by rw [carT]; exact ⟨rfl, rfl⟩
  have hnl := hn.1
  clear hn
  refine vc_of_ac (by simp [pv_iv, pv_int, pv_bool, pv_string, pv_tup2, pv_tup3, iv_plain, p2_int, p2_bool, p2_string]) (by simp [pv_iv, pv_int, pv_bool, pv_string, pv_tup2, pv_tup3, iv_plain, p2_int, p2_bool, p2_string]) ?_
  refine ac_of_aw Try.func49 rfl Try.ntmps49 Try.results49 (by simp) ?_
  have htn := five_take n hnl
  refine aw_seq ?_
  (refine aw_ops (by kernel_rfl) (fun K hK => ?_); simp (disch := first | omega | (simp only [List.length_set, List.length_append, List.length_cons, List.length_nil, iv_length, zl_length]; try omega; done)) [-getElem?_pos, -getElem?_neg]; refine hK _ _ ?_; clear hK K)
  refine aw_seq ?_
  (refine aw_ops (by kernel_rfl) (fun K hK => ?_); simp (disch := first | omega | (simp only [List.length_set, List.length_append, List.length_cons, List.length_nil, iv_length, zl_length]; try omega; done)) [-getElem?_pos, -getElem?_neg]; refine hK _ _ ?_; clear hK K)
  refine aw_seq ?_
  refine aw_seq ?_
  (refine aw_ops (by kernel_rfl) (fun K hK => ?_); simp (disch := first | omega | (simp only [List.length_set, List.length_append, List.length_cons, List.length_nil, iv_length, zl_length]; try omega; done)) [-getElem?_pos, -getElem?_neg]; refine hK _ _ ?_; clear hK K)
  refine aw_block ?_
  refine aw_loop (fun q α H' => ∃ i : Nat, i + q = 5 ∧ α 5 = .int .i64 (i : Nat) ∧ α 3 = .int .u64 (carT n i).2 ∧ α 1 = .pointer (some ⟨0, 0, none⟩) ∧ α 2 = .pointer (some ⟨1, 0, none⟩) ∧ H' = [some ⟨iv .u64 (carT n i).1, 64, none⟩, some ⟨iv .u64 (zl 5), 64, none⟩]) 5 ?_ ?_
  · exact ⟨0, by omega, by (first | (simp [put_at, put_none, fr0_at]; done) | rfl), by rw [hT0]; (first | (simp [put_at, put_none, fr0_at]; done) | rfl), by (first | (simp [put_at, put_none, fr0_at]; done) | rfl), by (first | (simp [put_at, put_none, fr0_at]; done) | rfl), by rw [hT0]⟩
  rintro q α H' ⟨i, hiq, h5, h3, h1, h2, rfl⟩
  refine aw_seq ?_
  by_cases hi : i < 5
  · obtain ⟨g1, g2, g3⟩ := hst i
    have g4 := g1 i
    have hl := hln i
    obtain ⟨t1, t2⟩ := hTs i
    have hc : (iv .u64 (carT n i).1)[i]? = some (.int .u64 ((carT n i).1.getD i 0)) := iv_getN _ _ _ (by omega)
    generalize (carT n i).1 = O at *
    generalize (carT n i).2 = c at *
    have hset : ∀ x, (iv .u64 O).set i (.int .u64 x) = iv .u64 (O.set i x) := fun x => iv_set ..
    have hc2 : ∀ x, (iv .u64 (O.set i x))[i]? = some (.int .u64 x) := fun x => by rw [iv_getN _ _ _ (by simp; omega), getD_setI, if_pos ⟨rfl, by omega⟩]
    have ha := and26 (O.getD i 0 + c) (by omega)
    have hfd : (O.getD i 0 + c).fdiv 67108864 = (O.getD i 0 + c) / 67108864 := Int.fdiv_eq_ediv_of_nonneg _ (by omega)
    generalize O.getD i 0 = o at *
    (refine aw_ops (by kernel_rfl) (fun K hK => ?_); simp (disch := first | omega | (simp only [List.length_set, List.length_append, List.length_cons, List.length_nil, iv_length, zl_length]; try omega; done)) [-getElem?_pos, -getElem?_neg, h5]; refine hK _ _ ?_; clear hK K)
    refine aw_seq ?_
    refine aw_t (by (first | (simp [eval_tmp, put_at, hi]; done) | (simp [eval_tmp, put_at, hi]; omega))) (by kernel_rfl) ?_
    refine aw_skip ?_
    refine aw_seq ?_
    refine aw_block ?_
    refine aw_seq ?_
    (refine aw_ops (by kernel_rfl) (fun K hK => ?_); simp (disch := first | omega | (simp only [List.length_set, List.length_append, List.length_cons, List.length_nil, iv_length, zl_length]; try omega; done)) [-getElem?_pos, -getElem?_neg, h5]; refine hK _ _ ?_; clear hK K)
    refine aw_seq ?_
    (refine aw_ops (by kernel_rfl) (fun K hK => ?_); simp (disch := first | omega | (simp only [List.length_set, List.length_append, List.length_cons, List.length_nil, iv_length, zl_length]; try omega; done)) [-getElem?_pos, -getElem?_neg, h1, h3, hc, hset]; refine hK _ _ ?_; clear hK K)
    refine aw_seq ?_
    (refine aw_ops (by kernel_rfl) (fun K hK => ?_); simp (disch := first | omega | (simp only [List.length_set, List.length_append, List.length_cons, List.length_nil, iv_length, zl_length]; try omega; done)) [-getElem?_pos, -getElem?_neg, h1, hc2, hfd]; refine hK _ _ ?_; clear hK K)
    (refine aw_ops (by kernel_rfl) (fun K hK => ?_); simp (disch := first | omega | (simp only [List.length_set, List.length_append, List.length_cons, List.length_nil, iv_length, zl_length]; try omega; done)) [-getElem?_pos, -getElem?_neg, h1, hc2, ha, iv_set, List.set_set]; refine hK _ _ ?_; clear hK K)
    (refine aw_ops (by kernel_rfl) (fun K hK => ?_); simp (disch := first | omega | (simp only [List.length_set, List.length_append, List.length_cons, List.length_nil, iv_length, zl_length]; try omega; done)) [-getElem?_pos, -getElem?_neg, h5]; refine hK _ _ ?_; clear hK K)
    exact ⟨q - 1, by omega, i + 1, by omega, by (first | (simp [put_at, put_none, fr0_at]; done) | rfl), by rw [t2]; (first | (simp [put_at, put_none, fr0_at]; done) | rfl), by (first | (simp [put_at, put_none, fr0_at, h1]; done) | rfl), by (first | (simp [put_at, put_none, fr0_at, h2]; done) | rfl), by rw [t1]⟩
  · (refine aw_ops (by kernel_rfl) (fun K hK => ?_); simp (disch := first | omega | (simp only [List.length_set, List.length_append, List.length_cons, List.length_nil, iv_length, zl_length]; try omega; done)) [-getElem?_pos, -getElem?_neg, h5]; refine hK _ _ ?_; clear hK K)
    refine aw_seq ?_
    refine aw_f (by (first | (simp [eval_tmp, put_at, hi]; done) | (simp [eval_tmp, put_at, hi]; omega))) (by kernel_rfl) ?_
    refine aw_exit ?_
    obtain rfl : i = 5 := by omega
    obtain ⟨g1, g2, g3⟩ := hst 5
    have g4 := g1 0
    have hl := hln 5
    have hc : (iv .u64 (carT n 5).1)[0]? = some (.int .u64 ((carT n 5).1.getD 0 0)) := iv_getN _ _ _ (by omega)
    generalize carF n = F at *
    generalize (carT n 5).1 = O at *
    generalize (carT n 5).2 = c at *
    have htF := five_take F hFl
    have hsF := five_set F hFl
    generalize O.getD 0 0 = o at *
    refine aw_seq ?_
    (refine aw_ops (by kernel_rfl) (fun K hK => ?_); simp (disch := first | omega | (simp only [List.length_set, List.length_append, List.length_cons, List.length_nil, iv_length, zl_length]; try omega; done)) [-getElem?_pos, -getElem?_neg, h1, h3, hc, iv_set, ← hF]; refine hK _ _ ?_; clear hK K)
    refine aw_seq ?_
    (refine aw_ops (by kernel_rfl) (fun K hK => ?_); simp (disch := first | omega | (simp only [List.length_set, List.length_append, List.length_cons, List.length_nil, iv_length, zl_length]; try omega; done)) [-getElem?_pos, -getElem?_neg, h1, h2, hFl, htF, hsF]; refine hK _ _ ?_; clear hK K)
    (refine aw_ret ?_; simp (disch := first | omega | (simp only [List.length_set, List.length_append, List.length_cons, List.length_nil, iv_length, zl_length]; try omega; done)) [-getElem?_pos, -getElem?_neg, thenQ_ret, inBlockQ_ret, RQ, resL, resV, h2, htF, hFl])
end

section
open Go Go.RowKit
set_option linter.unusedVariables false
set_option linter.unusedSimpArgs false
set_option maxRecDepth 100000
set_option maxHeartbeats 4000000

theorem carried_rc {H : AH} {γ : Nat → Option Nat} {n : List Int} (hn : Wi n) : AC Try.prog H.length γ 49 #[.agg (iv .u64 n).toArray] H (fun v' _ => v' = .agg (iv .u64 (carF n)).toArray) := ac_of_vc (by simp [pv_iv, pv_int, pv_bool, pv_string, pv_tup2, pv_tup3, iv_plain, p2_int, p2_bool, p2_string]) (carried_vc hn) rfl
attribute [local irreducible] carF redN
theorem reduced_vc {n : List Int} (hn : Iv n) : VC Try.prog 38 #[.agg (iv .u64 n).toArray] (.agg (iv .u64 (redF n)).toArray) := by
  have hc1 := carried_vc hn.wi
  have n1 := car_one hn
  have hc2 := carried_vc n1.iv.wi
  have n2 := car_one n1.iv
  have hF : redF n = redN (carF (carF n)) := by unfold redF; rfl
  have hnl := hn.len
  have h1l := n1.len
  rw [hF]
  clear hF hn n1
  generalize carF n = m at *
  generalize carF m = r at *
  have hr := n2.len
  have hst := fun i => ovT_bd n2 i
  have hln := fun i => (ovT_len r i).trans hr
  have hF : redN r = if (ovT r 4).getD 4 0 / 67108864 = 0 then r else (ovT r 4).set 4 ((ovT r 4).getD 4 0 % 67108864) := by unfold redN; rfl
  have hT0 : ovT r 0 = r.set 0 (r.getD 0 0 + 5) := by unfold ovT; rfl
  have hTs : ∀ i, ovT r (i + 1) = ((ovT r i).set (i + 1) ((ovT r i).getD (i + 1) 0 + (ovT r i).getD i 0 / 67108864)).set i ((ovT r i).getD i 0 % 67108864) := fun i => by
    rw [ovT, getD_setI, if_neg (by omega)]
  have g0 := n2.get 0
  have hc0 : (iv .u64 r)[0]? = some (.int .u64 (r.getD 0 0)) := iv_getN _ _ _ (by omega)
  have hFl := (redN_ok n2).1.len
  clear n2
  refine vc_of_ac (by simp [pv_iv, pv_int, pv_bool, pv_string, pv_tup2, pv_tup3, iv_plain, p2_int, p2_bool, p2_string]) (by simp [pv_iv, pv_int, pv_bool, pv_string, pv_tup2, pv_tup3, iv_plain, p2_int, p2_bool, p2_string]) ?_
  refine ac_of_aw Try.func38 rfl Try.ntmps38 Try.results38 (by simp) ?_
  have htn := five_take n hnl
  have htr := five_take r hr
  have hs1 := five_over r n hr hnl
  have hs0 := five_set r hr
  refine aw_seq ?_
  (refine aw_ops (by kernel_rfl) (fun K hK => ?_); simp (disch := first | omega | (simp only [List.length_set, List.length_append, List.length_cons, List.length_nil, iv_length, zl_length]; done) | (simp only [List.length_set, List.length_append, List.length_cons, List.length_nil, iv_length, zl_length]; omega)) [wb_bool, wb_undef, XL_nil, XL_cons, XLc_val, XLc_call, step1_eq, stepW_t, stepW_f, stepC_n, stepC_s, stepX_s, xop_eq, xopR_s, xopR_n, wantedA_eq, wantedG_n, wantedG_s, plain1_int, plain1_bool, plain1_string, bits_i64, bits_u64, bits_u32, bits_u16, bits_u8, xeqA, xarr, allK_iv, num_iv, calleeOf, xread, xeff, xbin, xint, xnil, xun, xstr, xload, xconv, xpart, xfield, xfieldAddr, xindexAddr, xindex, bnd, asInt?, xslice, xlen, xmin, xmax, xbuild, xfill, xappend, xcopy, xcells, eval_tmp, eval_const, put_at, put_none, fr0_at, cells_agg, cells_int, cells_bool, cells_string, cells_ptr, cells_slice, notTuple, tab, iv_all, hget_app, hget_app0, hget_cons0, hget_cons, set_app, set_app0, setR, setR_one, QL_nil, QL_cons, QLc_val, stepQ_t, stepQ_f, stepQC_n, stepQC_s, stepQX_s, SL_nil, SL_cons, SLc_val, stepS_t, stepS_f, ltT, ltF, leT, leF, eqT, eqF, ltTn, ltFn, leTn, leFn, eqTn, eqFn, beqT, beqF, bneT, bneF, wi64, wu64, wu32, wu16, wu8, tmodP, tdivP, hgetL, hgetNe, hgetEq, setL, nums_def, nums_len, Nat.succ_le_of_lt, List.getElem?_cons_zero, List.getElem?_cons_succ, Option.getD_some, -getElem?_pos, -getElem?_neg, Int.toNat_add, Int.toNat_mul, agB, agI, agS, agP, agL, agA, okB, okI, okS, okP, okSl, okA]; refine hK _ _ ?_; clear hK K)
  refine aw_seq ?_
  refine aw_ops (by kernel_rfl) (fun K hK => ?_)
  simp (disch := first | omega | (simp only [List.length_set, List.length_append, List.length_cons, List.length_nil, iv_length, zl_length]; done) | (simp only [List.length_set, List.length_append, List.length_cons, List.length_nil, iv_length, zl_length]; omega)) [wb_bool, wb_undef, XL_nil, XL_cons, XLc_val, XLc_call, step1_eq, stepW_t, stepW_f, stepC_n, stepC_s, stepX_s, xop_eq, xopR_s, xopR_n, wantedA_eq, wantedG_n, wantedG_s, plain1_int, plain1_bool, plain1_string, bits_i64, bits_u64, bits_u32, bits_u16, bits_u8, xeqA, xarr, allK_iv, num_iv, calleeOf, xread, xeff, xbin, xint, xnil, xun, xstr, xload, xconv, xpart, xfield, xfieldAddr, xindexAddr, xindex, bnd, asInt?, xslice, xlen, xmin, xmax, xbuild, xfill, xappend, xcopy, xcells, eval_tmp, eval_const, put_at, put_none, fr0_at, cells_agg, cells_int, cells_bool, cells_string, cells_ptr, cells_slice, notTuple, tab, iv_all, hget_app, hget_app0, hget_cons0, hget_cons, set_app, set_app0, setR, setR_one, QL_nil, QL_cons, QLc_val, stepQ_t, stepQ_f, stepQC_n, stepQC_s, stepQX_s, SL_nil, SL_cons, SLc_val, stepS_t, stepS_f, hnl, htn, ltT, ltF, leT, leF, eqT, eqF, ltTn, ltFn, leTn, leFn, eqTn, eqFn, beqT, beqF, bneT, bneF, wi64, wu64, wu32, wu16, wu8, tmodP, tdivP, hgetL, hgetNe, hgetEq, setL, nums_def, nums_len, Nat.succ_le_of_lt, List.getElem?_cons_zero, List.getElem?_cons_succ, Option.getD_some, -getElem?_pos, -getElem?_neg, Int.toNat_add, Int.toNat_mul, agB, agI, agS, agP, agL, agA, okB, okI, okS, okP, okSl, okA]
  refine ⟨by kernel_rfl, ac_of_vc (by simp [pv_iv, pv_int, pv_bool, pv_string, pv_tup2, pv_tup3, iv_plain, p2_int, p2_bool, p2_string]) hc1 ?_⟩
  try simp (disch := first | omega | (simp only [List.length_set, List.length_append, List.length_cons, List.length_nil, iv_length, zl_length]; done) | (simp only [List.length_set, List.length_append, List.length_cons, List.length_nil, iv_length, zl_length]; omega)) [wb_bool, wb_undef, XL_nil, XL_cons, XLc_val, XLc_call, step1_eq, stepW_t, stepW_f, stepC_n, stepC_s, stepX_s, xop_eq, xopR_s, xopR_n, wantedA_eq, wantedG_n, wantedG_s, plain1_int, plain1_bool, plain1_string, bits_i64, bits_u64, bits_u32, bits_u16, bits_u8, xeqA, xarr, allK_iv, num_iv, calleeOf, xread, xeff, xbin, xint, xnil, xun, xstr, xload, xconv, xpart, xfield, xfieldAddr, xindexAddr, xindex, bnd, asInt?, xslice, xlen, xmin, xmax, xbuild, xfill, xappend, xcopy, xcells, eval_tmp, eval_const, put_at, put_none, fr0_at, cells_agg, cells_int, cells_bool, cells_string, cells_ptr, cells_slice, notTuple, tab, iv_all, hget_app, hget_app0, hget_cons0, hget_cons, set_app, set_app0, setR, setR_one, QL_nil, QL_cons, QLc_val, stepQ_t, stepQ_f, stepQC_n, stepQC_s, stepQX_s, SL_nil, SL_cons, SLc_val, stepS_t, stepS_f, hnl, htn, ltT, ltF, leT, leF, eqT, eqF, ltTn, ltFn, leTn, leFn, eqTn, eqFn, beqT, beqF, bneT, bneF, wi64, wu64, wu32, wu16, wu8, tmodP, tdivP, hgetL, hgetNe, hgetEq, setL, nums_def, nums_len, Nat.succ_le_of_lt, List.getElem?_cons_zero, List.getElem?_cons_succ, Option.getD_some, -getElem?_pos, -getElem?_neg, Int.toNat_add, Int.toNat_mul, agB, agI, agS, agP, agL, agA, okB, okI, okS, okP, okSl, okA]
  refine ⟨by kernel_rfl, ac_of_vc (by simp [pv_iv, pv_int, pv_bool, pv_string, pv_tup2, pv_tup3, iv_plain, p2_int, p2_bool, p2_string]) hc2 ?_⟩
  simp (disch := first | omega | (simp only [List.length_set, List.length_append, List.length_cons, List.length_nil, iv_length, zl_length]; done) | (simp only [List.length_set, List.length_append, List.length_cons, List.length_nil, iv_length, zl_length]; omega)) [wb_bool, wb_undef, XL_nil, XL_cons, XLc_val, XLc_call, step1_eq, stepW_t, stepW_f, stepC_n, stepC_s, stepX_s, xop_eq, xopR_s, xopR_n, wantedA_eq, wantedG_n, wantedG_s, plain1_int, plain1_bool, plain1_string, bits_i64, bits_u64, bits_u32, bits_u16, bits_u8, xeqA, xarr, allK_iv, num_iv, calleeOf, xread, xeff, xbin, xint, xnil, xun, xstr, xload, xconv, xpart, xfield, xfieldAddr, xindexAddr, xindex, bnd, asInt?, xslice, xlen, xmin, xmax, xbuild, xfill, xappend, xcopy, xcells, eval_tmp, eval_const, put_at, put_none, fr0_at, cells_agg, cells_int, cells_bool, cells_string, cells_ptr, cells_slice, notTuple, tab, iv_all, hget_app, hget_app0, hget_cons0, hget_cons, set_app, set_app0, setR, setR_one, QL_nil, QL_cons, QLc_val, stepQ_t, stepQ_f, stepQC_n, stepQC_s, stepQX_s, SL_nil, SL_cons, SLc_val, stepS_t, stepS_f, hnl, hr, hs1, ltT, ltF, leT, leF, eqT, eqF, ltTn, ltFn, leTn, leFn, eqTn, eqFn, beqT, beqF, bneT, bneF, wi64, wu64, wu32, wu16, wu8, tmodP, tdivP, hgetL, hgetNe, hgetEq, setL, nums_def, nums_len, Nat.succ_le_of_lt, List.getElem?_cons_zero, List.getElem?_cons_succ, Option.getD_some, -getElem?_pos, -getElem?_neg, Int.toNat_add, Int.toNat_mul, agB, agI, agS, agP, agL, agA, okB, okI, okS, okP, okSl, okA]
  refine hK _ _ ?_; clear hK K
  refine aw_seq ?_
  (refine aw_ops (by kernel_rfl) (fun K hK => ?_); simp (disch := first | omega | (simp only [List.length_set, List.length_append, List.length_cons, List.length_nil, iv_length, zl_length]; done) | (simp only [List.length_set, List.length_append, List.length_cons, List.length_nil, iv_length, zl_length]; omega)) [wb_bool, wb_undef, XL_nil, XL_cons, XLc_val, XLc_call, step1_eq, stepW_t, stepW_f, stepC_n, stepC_s, stepX_s, xop_eq, xopR_s, xopR_n, wantedA_eq, wantedG_n, wantedG_s, plain1_int, plain1_bool, plain1_string, bits_i64, bits_u64, bits_u32, bits_u16, bits_u8, xeqA, xarr, allK_iv, num_iv, calleeOf, xread, xeff, xbin, xint, xnil, xun, xstr, xload, xconv, xpart, xfield, xfieldAddr, xindexAddr, xindex, bnd, asInt?, xslice, xlen, xmin, xmax, xbuild, xfill, xappend, xcopy, xcells, eval_tmp, eval_const, put_at, put_none, fr0_at, cells_agg, cells_int, cells_bool, cells_string, cells_ptr, cells_slice, notTuple, tab, iv_all, hget_app, hget_app0, hget_cons0, hget_cons, set_app, set_app0, setR, setR_one, QL_nil, QL_cons, QLc_val, stepQ_t, stepQ_f, stepQC_n, stepQC_s, stepQX_s, SL_nil, SL_cons, SLc_val, stepS_t, stepS_f, hr, htr, hs0, ltT, ltF, leT, leF, eqT, eqF, ltTn, ltFn, leTn, leFn, eqTn, eqFn, beqT, beqF, bneT, bneF, wi64, wu64, wu32, wu16, wu8, tmodP, tdivP, hgetL, hgetNe, hgetEq, setL, nums_def, nums_len, Nat.succ_le_of_lt, List.getElem?_cons_zero, List.getElem?_cons_succ, Option.getD_some, -getElem?_pos, -getElem?_neg, Int.toNat_add, Int.toNat_mul, agB, agI, agS, agP, agL, agA, okB, okI, okS, okP, okSl, okA]; refine hK _ _ ?_; clear hK K)
  refine aw_seq ?_
  have hset0 : ∀ x, (iv .u64 r).set 0 (.int .u64 x) = iv .u64 (r.set 0 x) := fun x => iv_set ..
  generalize hr0 : r.getD 0 0 = r0 at *
  (refine aw_ops (by kernel_rfl) (fun K hK => ?_); simp (disch := first | omega | (simp only [List.length_set, List.length_append, List.length_cons, List.length_nil, iv_length, zl_length]; done) | (simp only [List.length_set, List.length_append, List.length_cons, List.length_nil, iv_length, zl_length]; omega)) [wb_bool, wb_undef, XL_nil, XL_cons, XLc_val, XLc_call, step1_eq, stepW_t, stepW_f, stepC_n, stepC_s, stepX_s, xop_eq, xopR_s, xopR_n, wantedA_eq, wantedG_n, wantedG_s, plain1_int, plain1_bool, plain1_string, bits_i64, bits_u64, bits_u32, bits_u16, bits_u8, xeqA, xarr, allK_iv, num_iv, calleeOf, xread, xeff, xbin, xint, xnil, xun, xstr, xload, xconv, xpart, xfield, xfieldAddr, xindexAddr, xindex, bnd, asInt?, xslice, xlen, xmin, xmax, xbuild, xfill, xappend, xcopy, xcells, eval_tmp, eval_const, put_at, put_none, fr0_at, cells_agg, cells_int, cells_bool, cells_string, cells_ptr, cells_slice, notTuple, tab, iv_all, hget_app, hget_app0, hget_cons0, hget_cons, set_app, set_app0, setR, setR_one, QL_nil, QL_cons, QLc_val, stepQ_t, stepQ_f, stepQC_n, stepQC_s, stepQX_s, SL_nil, SL_cons, SLc_val, stepS_t, stepS_f, hr, hc0, hset0, ltT, ltF, leT, leF, eqT, eqF, ltTn, ltFn, leTn, leFn, eqTn, eqFn, beqT, beqF, bneT, bneF, wi64, wu64, wu32, wu16, wu8, tmodP, tdivP, hgetL, hgetNe, hgetEq, setL, nums_def, nums_len, Nat.succ_le_of_lt, List.getElem?_cons_zero, List.getElem?_cons_succ, Option.getD_some, -getElem?_pos, -getElem?_neg, Int.toNat_add, Int.toNat_mul, agB, agI, agS, agP, agL, agA, okB, okI, okS, okP, okSl, okA]; refine hK _ _ ?_; clear hK K)
  refine aw_seq ?_
  refine aw_seq ?_
  (refine aw_ops (by kernel_rfl) (fun K hK => ?_); simp (disch := first | omega | (simp only [List.length_set, List.length_append, List.length_cons, List.length_nil, iv_length, zl_length]; done) | (simp only [List.length_set, List.length_append, List.length_cons, List.length_nil, iv_length, zl_length]; omega)) [wb_bool, wb_undef, XL_nil, XL_cons, XLc_val, XLc_call, step1_eq, stepW_t, stepW_f, stepC_n, stepC_s, stepX_s, xop_eq, xopR_s, xopR_n, wantedA_eq, wantedG_n, wantedG_s, plain1_int, plain1_bool, plain1_string, bits_i64, bits_u64, bits_u32, bits_u16, bits_u8, xeqA, xarr, allK_iv, num_iv, calleeOf, xread, xeff, xbin, xint, xnil, xun, xstr, xload, xconv, xpart, xfield, xfieldAddr, xindexAddr, xindex, bnd, asInt?, xslice, xlen, xmin, xmax, xbuild, xfill, xappend, xcopy, xcells, eval_tmp, eval_const, put_at, put_none, fr0_at, cells_agg, cells_int, cells_bool, cells_string, cells_ptr, cells_slice, notTuple, tab, iv_all, hget_app, hget_app0, hget_cons0, hget_cons, set_app, set_app0, setR, setR_one, QL_nil, QL_cons, QLc_val, stepQ_t, stepQ_f, stepQC_n, stepQC_s, stepQX_s, SL_nil, SL_cons, SLc_val, stepS_t, stepS_f, ltT, ltF, leT, leF, eqT, eqF, ltTn, ltFn, leTn, leFn, eqTn, eqFn, beqT, beqF, bneT, bneF, wi64, wu64, wu32, wu16, wu8, tmodP, tdivP, hgetL, hgetNe, hgetEq, setL, nums_def, nums_len, Nat.succ_le_of_lt, List.getElem?_cons_zero, List.getElem?_cons_succ, Option.getD_some, -getElem?_pos, -getElem?_neg, Int.toNat_add, Int.toNat_mul, agB, agI, agS, agP, agL, agA, okB, okI, okS, okP, okSl, okA]; refine hK _ _ ?_; clear hK K)
  refine aw_block ?_
  refine aw_loop (fun q α H' => ∃ i : Nat, i + q = 4 ∧ α 13 = .int .i64 (i : Nat) ∧ α 1 = .pointer (some ⟨0, 0, none⟩) ∧ α 2 = .pointer (some ⟨1, 0, none⟩) ∧ α 3 = .pointer (some ⟨2, 0, none⟩) ∧ H' = [some ⟨iv .u64 r, 64, none⟩, some ⟨iv .u64 (zl 5), 64, none⟩, some ⟨iv .u64 (ovT r i), 64, none⟩]) 4 ?_ ?_
  · exact ⟨0, by omega, by (first | (simp [put_at, put_none, fr0_at]; done) | rfl), by (first | (simp [put_at, put_none, fr0_at]; done) | rfl), by (first | (simp [put_at, put_none, fr0_at]; done) | rfl), by (first | (simp [put_at, put_none, fr0_at]; done) | rfl), by rw [hT0]⟩
  rintro q α H' ⟨i, hiq, h13, h1, h2, h3, rfl⟩
  refine aw_seq ?_
  by_cases hi : i < 4
  · have ga := hst i i
    have gb := hst i (i + 1)
    have hl := hln i
    have t1 := hTs i
    have hca : (iv .u64 (ovT r i))[i]? = some (.int .u64 ((ovT r i).getD i 0)) := iv_getN _ _ _ (by omega)
    have hcb : (iv .u64 (ovT r i))[i + 1]? = some (.int .u64 ((ovT r i).getD (i + 1) 0)) := iv_getN _ _ _ (by omega)
    have hfd : ((ovT r i).getD i 0).fdiv 67108864 = (ovT r i).getD i 0 / 67108864 := Int.fdiv_eq_ediv_of_nonneg _ (by omega)
    have ha := and26 ((ovT r i).getD i 0) (by omega)
    have hcc : ∀ x, (iv .u64 ((ovT r i).set (i + 1) x))[i]? = some (.int .u64 ((ovT r i).getD i 0)) := fun x => by rw [iv_getN _ _ _ (by simp; omega), getD_setI, if_neg (by omega)]
    generalize hO : ovT r i = O at *
    generalize O.getD i 0 = o at *
    generalize O.getD (i + 1) 0 = o1 at *
    have hset : ∀ x, (iv .u64 O).set (i + 1) (.int .u64 x) = iv .u64 (O.set (i + 1) x) := fun x => iv_set ..
    (refine aw_ops (by kernel_rfl) (fun K hK => ?_); simp (disch := first | omega | (simp only [List.length_set, List.length_append, List.length_cons, List.length_nil, iv_length, zl_length]; done) | (simp only [List.length_set, List.length_append, List.length_cons, List.length_nil, iv_length, zl_length]; omega)) [wb_bool, wb_undef, XL_nil, XL_cons, XLc_val, XLc_call, step1_eq, stepW_t, stepW_f, stepC_n, stepC_s, stepX_s, xop_eq, xopR_s, xopR_n, wantedA_eq, wantedG_n, wantedG_s, plain1_int, plain1_bool, plain1_string, bits_i64, bits_u64, bits_u32, bits_u16, bits_u8, xeqA, xarr, allK_iv, num_iv, calleeOf, xread, xeff, xbin, xint, xnil, xun, xstr, xload, xconv, xpart, xfield, xfieldAddr, xindexAddr, xindex, bnd, asInt?, xslice, xlen, xmin, xmax, xbuild, xfill, xappend, xcopy, xcells, eval_tmp, eval_const, put_at, put_none, fr0_at, cells_agg, cells_int, cells_bool, cells_string, cells_ptr, cells_slice, notTuple, tab, iv_all, hget_app, hget_app0, hget_cons0, hget_cons, set_app, set_app0, setR, setR_one, QL_nil, QL_cons, QLc_val, stepQ_t, stepQ_f, stepQC_n, stepQC_s, stepQX_s, SL_nil, SL_cons, SLc_val, stepS_t, stepS_f, h13, ltT, ltF, leT, leF, eqT, eqF, ltTn, ltFn, leTn, leFn, eqTn, eqFn, beqT, beqF, bneT, bneF, wi64, wu64, wu32, wu16, wu8, tmodP, tdivP, hgetL, hgetNe, hgetEq, setL, nums_def, nums_len, Nat.succ_le_of_lt, List.getElem?_cons_zero, List.getElem?_cons_succ, Option.getD_some, -getElem?_pos, -getElem?_neg, Int.toNat_add, Int.toNat_mul, agB, agI, agS, agP, agL, agA, okB, okI, okS, okP, okSl, okA]; refine hK _ _ ?_; clear hK K)
    refine aw_seq ?_
    refine aw_t (by (first | (simp [eval_tmp, put_at, hi]; done) | (simp [eval_tmp, put_at, hi]; omega))) (by kernel_rfl) ?_
    refine aw_skip ?_
    refine aw_seq ?_
    refine aw_block ?_
    refine aw_seq ?_
    (refine aw_ops (by kernel_rfl) (fun K hK => ?_); simp (disch := first | omega | (simp only [List.length_set, List.length_append, List.length_cons, List.length_nil, iv_length, zl_length]; done) | (simp only [List.length_set, List.length_append, List.length_cons, List.length_nil, iv_length, zl_length]; omega)) [wb_bool, wb_undef, XL_nil, XL_cons, XLc_val, XLc_call, step1_eq, stepW_t, stepW_f, stepC_n, stepC_s, stepX_s, xop_eq, xopR_s, xopR_n, wantedA_eq, wantedG_n, wantedG_s, plain1_int, plain1_bool, plain1_string, bits_i64, bits_u64, bits_u32, bits_u16, bits_u8, xeqA, xarr, allK_iv, num_iv, calleeOf, xread, xeff, xbin, xint, xnil, xun, xstr, xload, xconv, xpart, xfield, xfieldAddr, xindexAddr, xindex, bnd, asInt?, xslice, xlen, xmin, xmax, xbuild, xfill, xappend, xcopy, xcells, eval_tmp, eval_const, put_at, put_none, fr0_at, cells_agg, cells_int, cells_bool, cells_string, cells_ptr, cells_slice, notTuple, tab, iv_all, hget_app, hget_app0, hget_cons0, hget_cons, set_app, set_app0, setR, setR_one, QL_nil, QL_cons, QLc_val, stepQ_t, stepQ_f, stepQC_n, stepQC_s, stepQX_s, SL_nil, SL_cons, SLc_val, stepS_t, stepS_f, h13, ltT, ltF, leT, leF, eqT, eqF, ltTn, ltFn, leTn, leFn, eqTn, eqFn, beqT, beqF, bneT, bneF, wi64, wu64, wu32, wu16, wu8, tmodP, tdivP, hgetL, hgetNe, hgetEq, setL, nums_def, nums_len, Nat.succ_le_of_lt, List.getElem?_cons_zero, List.getElem?_cons_succ, Option.getD_some, -getElem?_pos, -getElem?_neg, Int.toNat_add, Int.toNat_mul, agB, agI, agS, agP, agL, agA, okB, okI, okS, okP, okSl, okA]; refine hK _ _ ?_; clear hK K)
    refine aw_seq ?_
    (refine aw_plan [] [] [0, 1, 2, 3, 4, 5, 6, 7, 8, 9] 10 1 (by kernel_rfl) (by kernel_rfl) (by kernel_rfl) (fun K hK => ?_)); simp only [sel, List.getElem?_cons_succ, List.getElem?_cons_zero, List.drop_succ_cons, List.drop_zero]; simp (disch := first | omega | (simp only [List.length_set, List.length_append, List.length_cons, List.length_nil, iv_length, zl_length]; done) | (simp only [List.length_set, List.length_append, List.length_cons, List.length_nil, iv_length, zl_length]; omega)) [wb_bool, wb_undef, XL_nil, XL_cons, XLc_val, XLc_call, step1_eq, stepW_t, stepW_f, stepC_n, stepC_s, stepX_s, xop_eq, xopR_s, xopR_n, wantedA_eq, wantedG_n, wantedG_s, plain1_int, plain1_bool, plain1_string, bits_i64, bits_u64, bits_u32, bits_u16, bits_u8, xeqA, xarr, allK_iv, num_iv, calleeOf, xread, xeff, xbin, xint, xnil, xun, xstr, xload, xconv, xpart, xfield, xfieldAddr, xindexAddr, xindex, bnd, asInt?, xslice, xlen, xmin, xmax, xbuild, xfill, xappend, xcopy, xcells, eval_tmp, eval_const, put_at, put_none, fr0_at, cells_agg, cells_int, cells_bool, cells_string, cells_ptr, cells_slice, notTuple, tab, iv_all, hget_app, hget_app0, hget_cons0, hget_cons, set_app, set_app0, setR, setR_one, QL_nil, QL_cons, QLc_val, stepQ_t, stepQ_f, stepQC_n, stepQC_s, stepQX_s, SL_nil, SL_cons, SLc_val, stepS_t, stepS_f, h3, hca, hcb, hfd, hset, PL_nil, PL_cons, PLc_val, PLc_new, stepP_t, stepP_f, stepPC_n, stepPC_s, stepPX_s, stepPX_n, stepPA_t, stepPA_c, stepPA_l, stepPN_s, allocOp, reloc_sl, reloc_ptr, List.map_cons, List.map_nil, List.nil_append, List.append_assoc, List.cons_append, Nat.add_assoc, ltT, ltF, leT, leF, eqT, eqF, ltTn, ltFn, leTn, leFn, eqTn, eqFn, beqT, beqF, bneT, bneF, wi64, wu64, wu32, wu16, wu8, tmodP, tdivP, hgetL, hgetNe, hgetEq, setL, nums_def, nums_len, Nat.succ_le_of_lt, List.getElem?_cons_zero, List.getElem?_cons_succ, Option.getD_some, -getElem?_pos, -getElem?_neg, Int.toNat_add, Int.toNat_mul, agB, agI, agS, agP, agL, agA, okB, okI, okS, okP, okSl, okA]
    refine hK _ _ ?_; clear hK K
    (refine aw_ops (by kernel_rfl) (fun K hK => ?_); simp (disch := first | omega | (simp only [List.length_set, List.length_append, List.length_cons, List.length_nil, iv_length, zl_length]; done) | (simp only [List.length_set, List.length_append, List.length_cons, List.length_nil, iv_length, zl_length]; omega)) [wb_bool, wb_undef, XL_nil, XL_cons, XLc_val, XLc_call, step1_eq, stepW_t, stepW_f, stepC_n, stepC_s, stepX_s, xop_eq, xopR_s, xopR_n, wantedA_eq, wantedG_n, wantedG_s, plain1_int, plain1_bool, plain1_string, bits_i64, bits_u64, bits_u32, bits_u16, bits_u8, xeqA, xarr, allK_iv, num_iv, calleeOf, xread, xeff, xbin, xint, xnil, xun, xstr, xload, xconv, xpart, xfield, xfieldAddr, xindexAddr, xindex, bnd, asInt?, xslice, xlen, xmin, xmax, xbuild, xfill, xappend, xcopy, xcells, eval_tmp, eval_const, put_at, put_none, fr0_at, cells_agg, cells_int, cells_bool, cells_string, cells_ptr, cells_slice, notTuple, tab, iv_all, hget_app, hget_app0, hget_cons0, hget_cons, set_app, set_app0, setR, setR_one, QL_nil, QL_cons, QLc_val, stepQ_t, stepQ_f, stepQC_n, stepQC_s, stepQX_s, SL_nil, SL_cons, SLc_val, stepS_t, stepS_f, h3, hcc, ha, iv_set, ltT, ltF, leT, leF, eqT, eqF, ltTn, ltFn, leTn, leFn, eqTn, eqFn, beqT, beqF, bneT, bneF, wi64, wu64, wu32, wu16, wu8, tmodP, tdivP, hgetL, hgetNe, hgetEq, setL, nums_def, nums_len, Nat.succ_le_of_lt, List.getElem?_cons_zero, List.getElem?_cons_succ, Option.getD_some, -getElem?_pos, -getElem?_neg, Int.toNat_add, Int.toNat_mul, agB, agI, agS, agP, agL, agA, okB, okI, okS, okP, okSl, okA]; refine hK _ _ ?_; clear hK K)
    (refine aw_ops (by kernel_rfl) (fun K hK => ?_); simp (disch := first | omega | (simp only [List.length_set, List.length_append, List.length_cons, List.length_nil, iv_length, zl_length]; done) | (simp only [List.length_set, List.length_append, List.length_cons, List.length_nil, iv_length, zl_length]; omega)) [wb_bool, wb_undef, XL_nil, XL_cons, XLc_val, XLc_call, step1_eq, stepW_t, stepW_f, stepC_n, stepC_s, stepX_s, xop_eq, xopR_s, xopR_n, wantedA_eq, wantedG_n, wantedG_s, plain1_int, plain1_bool, plain1_string, bits_i64, bits_u64, bits_u32, bits_u16, bits_u8, xeqA, xarr, allK_iv, num_iv, calleeOf, xread, xeff, xbin, xint, xnil, xun, xstr, xload, xconv, xpart, xfield, xfieldAddr, xindexAddr, xindex, bnd, asInt?, xslice, xlen, xmin, xmax, xbuild, xfill, xappend, xcopy, xcells, eval_tmp, eval_const, put_at, put_none, fr0_at, cells_agg, cells_int, cells_bool, cells_string, cells_ptr, cells_slice, notTuple, tab, iv_all, hget_app, hget_app0, hget_cons0, hget_cons, set_app, set_app0, setR, setR_one, QL_nil, QL_cons, QLc_val, stepQ_t, stepQ_f, stepQC_n, stepQC_s, stepQX_s, SL_nil, SL_cons, SLc_val, stepS_t, stepS_f, h13, ltT, ltF, leT, leF, eqT, eqF, ltTn, ltFn, leTn, leFn, eqTn, eqFn, beqT, beqF, bneT, bneF, wi64, wu64, wu32, wu16, wu8, tmodP, tdivP, hgetL, hgetNe, hgetEq, setL, nums_def, nums_len, Nat.succ_le_of_lt, List.getElem?_cons_zero, List.getElem?_cons_succ, Option.getD_some, -getElem?_pos, -getElem?_neg, Int.toNat_add, Int.toNat_mul, agB, agI, agS, agP, agL, agA, okB, okI, okS, okP, okSl, okA]; refine hK _ _ ?_; clear hK K)
    exact ⟨q - 1, by omega, i + 1, by omega, by (first | (simp [put_at, put_none, fr0_at]; done) | rfl), by (first | (simp [put_at, put_none, fr0_at, h1]; done) | rfl), by (first | (simp [put_at, put_none, fr0_at, h2]; done) | rfl), by (first | (simp [put_at, put_none, fr0_at, h3]; done) | rfl), by rw [t1]⟩
  · (refine aw_ops (by kernel_rfl) (fun K hK => ?_); simp (disch := first | omega | (simp only [List.length_set, List.length_append, List.length_cons, List.length_nil, iv_length, zl_length]; done) | (simp only [List.length_set, List.length_append, List.length_cons, List.length_nil, iv_length, zl_length]; omega)) [wb_bool, wb_undef, XL_nil, XL_cons, XLc_val, XLc_call, step1_eq, stepW_t, stepW_f, stepC_n, stepC_s, stepX_s, xop_eq, xopR_s, xopR_n, wantedA_eq, wantedG_n, wantedG_s, plain1_int, plain1_bool, plain1_string, bits_i64, bits_u64, bits_u32, bits_u16, bits_u8, xeqA, xarr, allK_iv, num_iv, calleeOf, xread, xeff, xbin, xint, xnil, xun, xstr, xload, xconv, xpart, xfield, xfieldAddr, xindexAddr, xindex, bnd, asInt?, xslice, xlen, xmin, xmax, xbuild, xfill, xappend, xcopy, xcells, eval_tmp, eval_const, put_at, put_none, fr0_at, cells_agg, cells_int, cells_bool, cells_string, cells_ptr, cells_slice, notTuple, tab, iv_all, hget_app, hget_app0, hget_cons0, hget_cons, set_app, set_app0, setR, setR_one, QL_nil, QL_cons, QLc_val, stepQ_t, stepQ_f, stepQC_n, stepQC_s, stepQX_s, SL_nil, SL_cons, SLc_val, stepS_t, stepS_f, h13, ltT, ltF, leT, leF, eqT, eqF, ltTn, ltFn, leTn, leFn, eqTn, eqFn, beqT, beqF, bneT, bneF, wi64, wu64, wu32, wu16, wu8, tmodP, tdivP, hgetL, hgetNe, hgetEq, setL, nums_def, nums_len, Nat.succ_le_of_lt, List.getElem?_cons_zero, List.getElem?_cons_succ, Option.getD_some, -getElem?_pos, -getElem?_neg, Int.toNat_add, Int.toNat_mul, agB, agI, agS, agP, agL, agA, okB, okI, okS, okP, okSl, okA]; refine hK _ _ ?_; clear hK K)
    refine aw_seq ?_
    refine aw_f (by (first | (simp [eval_tmp, put_at, hi]; done) | (simp [eval_tmp, put_at, hi]; omega))) (by kernel_rfl) ?_
    refine aw_exit ?_
    obtain rfl : i = 4 := by omega
    have ga := hst 4 4
    have hl := hln 4
    have hc : (iv .u64 (ovT r 4))[4]? = some (.int .u64 ((ovT r 4).getD 4 0)) := iv_getN _ _ _ (by omega)
    have hfd : ((ovT r 4).getD 4 0).fdiv 67108864 = (ovT r 4).getD 4 0 / 67108864 := Int.fdiv_eq_ediv_of_nonneg _ (by omega)
    have ha := and26 ((ovT r 4).getD 4 0) (by omega)
    clear hst hln hTs
    generalize ovT r 4 = O at *
    generalize O.getD 4 0 = o at *
    refine aw_seq ?_
    refine aw_seq ?_
    by_cases hz : o / 67108864 = 0
    · rw [if_pos hz] at hF
      rw [hF]
      (refine aw_ops (by kernel_rfl) (fun K hK => ?_); simp (disch := first | omega | (simp only [List.length_set, List.length_append, List.length_cons, List.length_nil, iv_length, zl_length]; done) | (simp only [List.length_set, List.length_append, List.length_cons, List.length_nil, iv_length, zl_length]; omega)) [wb_bool, wb_undef, XL_nil, XL_cons, XLc_val, XLc_call, step1_eq, stepW_t, stepW_f, stepC_n, stepC_s, stepX_s, xop_eq, xopR_s, xopR_n, wantedA_eq, wantedG_n, wantedG_s, plain1_int, plain1_bool, plain1_string, bits_i64, bits_u64, bits_u32, bits_u16, bits_u8, xeqA, xarr, allK_iv, num_iv, calleeOf, xread, xeff, xbin, xint, xnil, xun, xstr, xload, xconv, xpart, xfield, xfieldAddr, xindexAddr, xindex, bnd, asInt?, xslice, xlen, xmin, xmax, xbuild, xfill, xappend, xcopy, xcells, eval_tmp, eval_const, put_at, put_none, fr0_at, cells_agg, cells_int, cells_bool, cells_string, cells_ptr, cells_slice, notTuple, tab, iv_all, hget_app, hget_app0, hget_cons0, hget_cons, set_app, set_app0, setR, setR_one, QL_nil, QL_cons, QLc_val, stepQ_t, stepQ_f, stepQC_n, stepQC_s, stepQX_s, SL_nil, SL_cons, SLc_val, stepS_t, stepS_f, h3, hc, hfd, hz, ltT, ltF, leT, leF, eqT, eqF, ltTn, ltFn, leTn, leFn, eqTn, eqFn, beqT, beqF, bneT, bneF, wi64, wu64, wu32, wu16, wu8, tmodP, tdivP, hgetL, hgetNe, hgetEq, setL, nums_def, nums_len, Nat.succ_le_of_lt, List.getElem?_cons_zero, List.getElem?_cons_succ, Option.getD_some, -getElem?_pos, -getElem?_neg, Int.toNat_add, Int.toNat_mul, agB, agI, agS, agP, agL, agA, okB, okI, okS, okP, okSl, okA]; refine hK _ _ ?_; clear hK K)
      refine aw_t (by (first | (simp [eval_tmp, put_at]; done) | (simp [eval_tmp, put_at]; omega))) (by kernel_rfl) ?_
      refine aw_seq ?_
      (refine aw_ops (by kernel_rfl) (fun K hK => ?_); simp (disch := first | omega | (simp only [List.length_set, List.length_append, List.length_cons, List.length_nil, iv_length, zl_length]; done) | (simp only [List.length_set, List.length_append, List.length_cons, List.length_nil, iv_length, zl_length]; omega)) [wb_bool, wb_undef, XL_nil, XL_cons, XLc_val, XLc_call, step1_eq, stepW_t, stepW_f, stepC_n, stepC_s, stepX_s, xop_eq, xopR_s, xopR_n, wantedA_eq, wantedG_n, wantedG_s, plain1_int, plain1_bool, plain1_string, bits_i64, bits_u64, bits_u32, bits_u16, bits_u8, xeqA, xarr, allK_iv, num_iv, calleeOf, xread, xeff, xbin, xint, xnil, xun, xstr, xload, xconv, xpart, xfield, xfieldAddr, xindexAddr, xindex, bnd, asInt?, xslice, xlen, xmin, xmax, xbuild, xfill, xappend, xcopy, xcells, eval_tmp, eval_const, put_at, put_none, fr0_at, cells_agg, cells_int, cells_bool, cells_string, cells_ptr, cells_slice, notTuple, tab, iv_all, hget_app, hget_app0, hget_cons0, hget_cons, set_app, set_app0, setR, setR_one, QL_nil, QL_cons, QLc_val, stepQ_t, stepQ_f, stepQC_n, stepQC_s, stepQX_s, SL_nil, SL_cons, SLc_val, stepS_t, stepS_f, h1, h2, hr, htr, hs0, ltT, ltF, leT, leF, eqT, eqF, ltTn, ltFn, leTn, leFn, eqTn, eqFn, beqT, beqF, bneT, bneF, wi64, wu64, wu32, wu16, wu8, tmodP, tdivP, hgetL, hgetNe, hgetEq, setL, nums_def, nums_len, Nat.succ_le_of_lt, List.getElem?_cons_zero, List.getElem?_cons_succ, Option.getD_some, -getElem?_pos, -getElem?_neg, Int.toNat_add, Int.toNat_mul, agB, agI, agS, agP, agL, agA, okB, okI, okS, okP, okSl, okA]; refine hK _ _ ?_; clear hK K)
      (refine aw_ret ?_; simp (disch := first | omega | (simp only [List.length_set, List.length_append, List.length_cons, List.length_nil, iv_length, zl_length]; done) | (simp only [List.length_set, List.length_append, List.length_cons, List.length_nil, iv_length, zl_length]; omega)) [wb_bool, wb_undef, XL_nil, XL_cons, XLc_val, XLc_call, step1_eq, stepW_t, stepW_f, stepC_n, stepC_s, stepX_s, xop_eq, xopR_s, xopR_n, wantedA_eq, wantedG_n, wantedG_s, plain1_int, plain1_bool, plain1_string, bits_i64, bits_u64, bits_u32, bits_u16, bits_u8, xeqA, xarr, allK_iv, num_iv, calleeOf, xread, xeff, xbin, xint, xnil, xun, xstr, xload, xconv, xpart, xfield, xfieldAddr, xindexAddr, xindex, bnd, asInt?, xslice, xlen, xmin, xmax, xbuild, xfill, xappend, xcopy, xcells, eval_tmp, eval_const, put_at, put_none, fr0_at, cells_agg, cells_int, cells_bool, cells_string, cells_ptr, cells_slice, notTuple, tab, iv_all, hget_app, hget_app0, hget_cons0, hget_cons, set_app, set_app0, setR, setR_one, QL_nil, QL_cons, QLc_val, stepQ_t, stepQ_f, stepQC_n, stepQC_s, stepQX_s, SL_nil, SL_cons, SLc_val, stepS_t, stepS_f, thenQ_ret, inBlockQ_ret, RQ, resL, resV, h2, htr, hr, ltT, ltF, leT, leF, eqT, eqF, ltTn, ltFn, leTn, leFn, eqTn, eqFn, beqT, beqF, bneT, bneF, wi64, wu64, wu32, wu16, wu8, tmodP, tdivP, hgetL, hgetNe, hgetEq, setL, nums_def, nums_len, Nat.succ_le_of_lt, List.getElem?_cons_zero, List.getElem?_cons_succ, Option.getD_some, -getElem?_pos, -getElem?_neg, Int.toNat_add, Int.toNat_mul, agB, agI, agS, agP, agL, agA, okB, okI, okS, okP, okSl, okA])
    · rw [if_neg hz] at hF
      (refine aw_ops (by kernel_rfl) (fun K hK => ?_); simp (disch := first | omega | (simp only [List.length_set, List.length_append, List.length_cons, List.length_nil, iv_length, zl_length]; done) | (simp only [List.length_set, List.length_append, List.length_cons, List.length_nil, iv_length, zl_length]; omega)) [wb_bool, wb_undef, XL_nil, XL_cons, XLc_val, XLc_call, step1_eq, stepW_t, stepW_f, stepC_n, stepC_s, stepX_s, xop_eq, xopR_s, xopR_n, wantedA_eq, wantedG_n, wantedG_s, plain1_int, plain1_bool, plain1_string, bits_i64, bits_u64, bits_u32, bits_u16, bits_u8, xeqA, xarr, allK_iv, num_iv, calleeOf, xread, xeff, xbin, xint, xnil, xun, xstr, xload, xconv, xpart, xfield, xfieldAddr, xindexAddr, xindex, bnd, asInt?, xslice, xlen, xmin, xmax, xbuild, xfill, xappend, xcopy, xcells, eval_tmp, eval_const, put_at, put_none, fr0_at, cells_agg, cells_int, cells_bool, cells_string, cells_ptr, cells_slice, notTuple, tab, iv_all, hget_app, hget_app0, hget_cons0, hget_cons, set_app, set_app0, setR, setR_one, QL_nil, QL_cons, QLc_val, stepQ_t, stepQ_f, stepQC_n, stepQC_s, stepQX_s, SL_nil, SL_cons, SLc_val, stepS_t, stepS_f, h3, hc, hfd, hz, ltT, ltF, leT, leF, eqT, eqF, ltTn, ltFn, leTn, leFn, eqTn, eqFn, beqT, beqF, bneT, bneF, wi64, wu64, wu32, wu16, wu8, tmodP, tdivP, hgetL, hgetNe, hgetEq, setL, nums_def, nums_len, Nat.succ_le_of_lt, List.getElem?_cons_zero, List.getElem?_cons_succ, Option.getD_some, -getElem?_pos, -getElem?_neg, Int.toNat_add, Int.toNat_mul, agB, agI, agS, agP, agL, agA, okB, okI, okS, okP, okSl, okA]; refine hK _ _ ?_; clear hK K)
      refine aw_f (by (first | (simp [eval_tmp, put_at, hz]; done) | (simp [eval_tmp, put_at, hz]; omega))) (by kernel_rfl) ?_
      refine aw_skip ?_
      refine aw_seq ?_
      (refine aw_ops (by kernel_rfl) (fun K hK => ?_); simp (disch := first | omega | (simp only [List.length_set, List.length_append, List.length_cons, List.length_nil, iv_length, zl_length]; done) | (simp only [List.length_set, List.length_append, List.length_cons, List.length_nil, iv_length, zl_length]; omega)) [wb_bool, wb_undef, XL_nil, XL_cons, XLc_val, XLc_call, step1_eq, stepW_t, stepW_f, stepC_n, stepC_s, stepX_s, xop_eq, xopR_s, xopR_n, wantedA_eq, wantedG_n, wantedG_s, plain1_int, plain1_bool, plain1_string, bits_i64, bits_u64, bits_u32, bits_u16, bits_u8, xeqA, xarr, allK_iv, num_iv, calleeOf, xread, xeff, xbin, xint, xnil, xun, xstr, xload, xconv, xpart, xfield, xfieldAddr, xindexAddr, xindex, bnd, asInt?, xslice, xlen, xmin, xmax, xbuild, xfill, xappend, xcopy, xcells, eval_tmp, eval_const, put_at, put_none, fr0_at, cells_agg, cells_int, cells_bool, cells_string, cells_ptr, cells_slice, notTuple, tab, iv_all, hget_app, hget_app0, hget_cons0, hget_cons, set_app, set_app0, setR, setR_one, QL_nil, QL_cons, QLc_val, stepQ_t, stepQ_f, stepQC_n, stepQC_s, stepQX_s, SL_nil, SL_cons, SLc_val, stepS_t, stepS_f, h3, hc, ha, iv_set, ← hF, ltT, ltF, leT, leF, eqT, eqF, ltTn, ltFn, leTn, leFn, eqTn, eqFn, beqT, beqF, bneT, bneF, wi64, wu64, wu32, wu16, wu8, tmodP, tdivP, hgetL, hgetNe, hgetEq, setL, nums_def, nums_len, Nat.succ_le_of_lt, List.getElem?_cons_zero, List.getElem?_cons_succ, Option.getD_some, -getElem?_pos, -getElem?_neg, Int.toNat_add, Int.toNat_mul, agB, agI, agS, agP, agL, agA, okB, okI, okS, okP, okSl, okA]; refine hK _ _ ?_; clear hK K)
      refine aw_seq ?_
      generalize redN r = F at *
      have htF := five_take F hFl
      have hsF := five_set F hFl
      (refine aw_ops (by kernel_rfl) (fun K hK => ?_); simp (disch := first | omega | (simp only [List.length_set, List.length_append, List.length_cons, List.length_nil, iv_length, zl_length]; done) | (simp only [List.length_set, List.length_append, List.length_cons, List.length_nil, iv_length, zl_length]; omega)) [wb_bool, wb_undef, XL_nil, XL_cons, XLc_val, XLc_call, step1_eq, stepW_t, stepW_f, stepC_n, stepC_s, stepX_s, xop_eq, xopR_s, xopR_n, wantedA_eq, wantedG_n, wantedG_s, plain1_int, plain1_bool, plain1_string, bits_i64, bits_u64, bits_u32, bits_u16, bits_u8, xeqA, xarr, allK_iv, num_iv, calleeOf, xread, xeff, xbin, xint, xnil, xun, xstr, xload, xconv, xpart, xfield, xfieldAddr, xindexAddr, xindex, bnd, asInt?, xslice, xlen, xmin, xmax, xbuild, xfill, xappend, xcopy, xcells, eval_tmp, eval_const, put_at, put_none, fr0_at, cells_agg, cells_int, cells_bool, cells_string, cells_ptr, cells_slice, notTuple, tab, iv_all, hget_app, hget_app0, hget_cons0, hget_cons, set_app, set_app0, setR, setR_one, QL_nil, QL_cons, QLc_val, stepQ_t, stepQ_f, stepQC_n, stepQC_s, stepQX_s, SL_nil, SL_cons, SLc_val, stepS_t, stepS_f, h2, h3, hFl, htF, hsF, ltT, ltF, leT, leF, eqT, eqF, ltTn, ltFn, leTn, leFn, eqTn, eqFn, beqT, beqF, bneT, bneF, wi64, wu64, wu32, wu16, wu8, tmodP, tdivP, hgetL, hgetNe, hgetEq, setL, nums_def, nums_len, Nat.succ_le_of_lt, List.getElem?_cons_zero, List.getElem?_cons_succ, Option.getD_some, -getElem?_pos, -getElem?_neg, Int.toNat_add, Int.toNat_mul, agB, agI, agS, agP, agL, agA, okB, okI, okS, okP, okSl, okA]; refine hK _ _ ?_; clear hK K)
      (refine aw_ret ?_; simp (disch := first | omega | (simp only [List.length_set, List.length_append, List.length_cons, List.length_nil, iv_length, zl_length]; done) | (simp only [List.length_set, List.length_append, List.length_cons, List.length_nil, iv_length, zl_length]; omega)) [wb_bool, wb_undef, XL_nil, XL_cons, XLc_val, XLc_call, step1_eq, stepW_t, stepW_f, stepC_n, stepC_s, stepX_s, xop_eq, xopR_s, xopR_n, wantedA_eq, wantedG_n, wantedG_s, plain1_int, plain1_bool, plain1_string, bits_i64, bits_u64, bits_u32, bits_u16, bits_u8, xeqA, xarr, allK_iv, num_iv, calleeOf, xread, xeff, xbin, xint, xnil, xun, xstr, xload, xconv, xpart, xfield, xfieldAddr, xindexAddr, xindex, bnd, asInt?, xslice, xlen, xmin, xmax, xbuild, xfill, xappend, xcopy, xcells, eval_tmp, eval_const, put_at, put_none, fr0_at, cells_agg, cells_int, cells_bool, cells_string, cells_ptr, cells_slice, notTuple, tab, iv_all, hget_app, hget_app0, hget_cons0, hget_cons, set_app, set_app0, setR, setR_one, QL_nil, QL_cons, QLc_val, stepQ_t, stepQ_f, stepQC_n, stepQC_s, stepQX_s, SL_nil, SL_cons, SLc_val, stepS_t, stepS_f, thenQ_ret, inBlockQ_ret, RQ, resL, resV, h2, htF, hFl, ltT, ltF, leT, leF, eqT, eqF, ltTn, ltFn, leTn, leFn, eqTn, eqFn, beqT, beqF, bneT, bneF, wi64, wu64, wu32, wu16, wu8, tmodP, tdivP, hgetL, hgetNe, hgetEq, setL, nums_def, nums_len, Nat.succ_le_of_lt, List.getElem?_cons_zero, List.getElem?_cons_succ, Option.getD_some, -getElem?_pos, -getElem?_neg, Int.toNat_add, Int.toNat_mul, agB, agI, agS, agP, agL, agA, okB, okI, okS, okP, okSl, okA])
theorem halves_vc {n : List Int} (hn : Nm n) : VC Try.prog 39 #[.agg (iv .u64 n).toArray] (.tuple #[.int .u64 (v5 n % 18446744073709551616), .int .u64 (v5 n / 18446744073709551616 % 18446744073709551616)]) := by
  obtain ⟨a, b, c, d, e, rfl, h1, h2, h3, h4, h5⟩ := hn
  have o1 := or_at (w := a) (c := b * 67108864) 26 67108864 rfl (by omega) (by omega) (by omega)
  have o2 := or_at (w := a + b * 67108864) (c := c * 4503599627370496 % 18446744073709551616) 52 4503599627370496 rfl (by omega) (by omega) (by omega)
  have o3 := or_at (w := c / 4096) (c := d * 16384) 14 16384 rfl (by omega) (by omega) (by omega)
  have o4 := or_at (w := c / 4096 + d * 16384) (c := e * 1099511627776 % 18446744073709551616) 40 1099511627776 rfl (by omega) (by omega) (by omega)
  have r1 : a + b * 67108864 + c * 4503599627370496 % 18446744073709551616 = v5 [a, b, c, d, e] % 18446744073709551616 := by rw [v5_eq]; omega
  have r2 : c / 4096 + d * 16384 + e * 1099511627776 % 18446744073709551616 = v5 [a, b, c, d, e] / 18446744073709551616 % 18446744073709551616 := by rw [v5_eq]; omega
  have hfd : c.fdiv 4096 = c / 4096 := Int.fdiv_eq_ediv_of_nonneg _ (by omega)
  have w1 := wrapU64 (c * 4503599627370496)
  have w2 := wrapU64 (e * 1099511627776)
  generalize v5 [a, b, c, d, e] = V at *
  refine vc_of_ac (by simp [pv_iv, pv_int, pv_bool, pv_string, pv_tup2, pv_tup3, iv_plain, p2_int, p2_bool, p2_string]) (by simp [pv_iv, pv_int, pv_bool, pv_string, pv_tup2, pv_tup3, iv_plain, p2_int, p2_bool, p2_string]) ?_
  have i0 : (iv .u64 [a, b, c, d, e])[0]? = some (.int .u64 a) := rfl
  have i1 : (iv .u64 [a, b, c, d, e])[1]? = some (.int .u64 b) := rfl
  have i2 : (iv .u64 [a, b, c, d, e])[2]? = some (.int .u64 c) := rfl
  have i3 : (iv .u64 [a, b, c, d, e])[3]? = some (.int .u64 d) := rfl
  have i4 : (iv .u64 [a, b, c, d, e])[4]? = some (.int .u64 e) := rfl
  have hL : [a, b, c, d, e].length = 5 := rfl
  generalize [a, b, c, d, e] = l at *
  have htl := five_take l hL
  refine ac_of_aw Try.func39 rfl Try.ntmps39 Try.results39 (by simp) ?_
  refine aw_seq ?_
  (refine aw_ops (by kernel_rfl) (fun K hK => ?_); simp (disch := first | omega | (simp only [List.length_set, List.length_append, List.length_cons, List.length_nil, iv_length, zl_length]; done) | (simp only [List.length_set, List.length_append, List.length_cons, List.length_nil, iv_length, zl_length]; omega)) [wb_bool, wb_undef, XL_nil, XL_cons, XLc_val, XLc_call, step1_eq, stepW_t, stepW_f, stepC_n, stepC_s, stepX_s, xop_eq, xopR_s, xopR_n, wantedA_eq, wantedG_n, wantedG_s, plain1_int, plain1_bool, plain1_string, bits_i64, bits_u64, bits_u32, bits_u16, bits_u8, xeqA, xarr, allK_iv, num_iv, calleeOf, xread, xeff, xbin, xint, xnil, xun, xstr, xload, xconv, xpart, xfield, xfieldAddr, xindexAddr, xindex, bnd, asInt?, xslice, xlen, xmin, xmax, xbuild, xfill, xappend, xcopy, xcells, eval_tmp, eval_const, put_at, put_none, fr0_at, cells_agg, cells_int, cells_bool, cells_string, cells_ptr, cells_slice, notTuple, tab, iv_all, hget_app, hget_app0, hget_cons0, hget_cons, set_app, set_app0, setR, setR_one, QL_nil, QL_cons, QLc_val, stepQ_t, stepQ_f, stepQC_n, stepQC_s, stepQX_s, SL_nil, SL_cons, SLc_val, stepS_t, stepS_f, ltT, ltF, leT, leF, eqT, eqF, ltTn, ltFn, leTn, leFn, eqTn, eqFn, beqT, beqF, bneT, bneF, wi64, wu64, wu32, wu16, wu8, tmodP, tdivP, hgetL, hgetNe, hgetEq, setL, nums_def, nums_len, Nat.succ_le_of_lt, List.getElem?_cons_zero, List.getElem?_cons_succ, Option.getD_some, -getElem?_pos, -getElem?_neg, Int.toNat_add, Int.toNat_mul, agB, agI, agS, agP, agL, agA, okB, okI, okS, okP, okSl, okA]; refine hK _ _ ?_; clear hK K)
  refine aw_seq ?_
  (refine aw_plan [] [] [0, 1, 2, 3, 4, 5, 6, 7, 8, 9, 10, 11, 12, 13, 14, 15, 16, 17, 18, 19, 20, 21, 22] 23 0 (by kernel_rfl) (by kernel_rfl) (by kernel_rfl) (fun K hK => ?_)); simp only [sel, List.getElem?_cons_succ, List.getElem?_cons_zero, List.drop_succ_cons, List.drop_zero]; simp (disch := first | omega | (simp only [List.length_set, List.length_append, List.length_cons, List.length_nil, iv_length, zl_length]; done) | (simp only [List.length_set, List.length_append, List.length_cons, List.length_nil, iv_length, zl_length]; omega)) [wb_bool, wb_undef, XL_nil, XL_cons, XLc_val, XLc_call, step1_eq, stepW_t, stepW_f, stepC_n, stepC_s, stepX_s, xop_eq, xopR_s, xopR_n, wantedA_eq, wantedG_n, wantedG_s, plain1_int, plain1_bool, plain1_string, bits_i64, bits_u64, bits_u32, bits_u16, bits_u8, xeqA, xarr, allK_iv, num_iv, calleeOf, xread, xeff, xbin, xint, xnil, xun, xstr, xload, xconv, xpart, xfield, xfieldAddr, xindexAddr, xindex, bnd, asInt?, xslice, xlen, xmin, xmax, xbuild, xfill, xappend, xcopy, xcells, eval_tmp, eval_const, put_at, put_none, fr0_at, cells_agg, cells_int, cells_bool, cells_string, cells_ptr, cells_slice, notTuple, tab, iv_all, hget_app, hget_app0, hget_cons0, hget_cons, set_app, set_app0, setR, setR_one, QL_nil, QL_cons, QLc_val, stepQ_t, stepQ_f, stepQC_n, stepQC_s, stepQX_s, SL_nil, SL_cons, SLc_val, stepS_t, stepS_f, hL, htl, i0, i1, i2, i3, i4, hfd, w1, w2, o1, o2, o3, o4, r1, r2, PL_nil, PL_cons, PLc_val, PLc_new, stepP_t, stepP_f, stepPC_n, stepPC_s, stepPX_s, stepPX_n, stepPA_t, stepPA_c, stepPA_l, stepPN_s, allocOp, reloc_sl, reloc_ptr, List.map_cons, List.map_nil, List.nil_append, List.append_assoc, List.cons_append, Nat.add_assoc, ltT, ltF, leT, leF, eqT, eqF, ltTn, ltFn, leTn, leFn, eqTn, eqFn, beqT, beqF, bneT, bneF, wi64, wu64, wu32, wu16, wu8, tmodP, tdivP, hgetL, hgetNe, hgetEq, setL, nums_def, nums_len, Nat.succ_le_of_lt, List.getElem?_cons_zero, List.getElem?_cons_succ, Option.getD_some, -getElem?_pos, -getElem?_neg, Int.toNat_add, Int.toNat_mul, agB, agI, agS, agP, agL, agA, okB, okI, okS, okP, okSl, okA]
  refine hK _ _ ?_; clear hK K
  (refine aw_ret ?_; simp (disch := first | omega | (simp only [List.length_set, List.length_append, List.length_cons, List.length_nil, iv_length, zl_length]; done) | (simp only [List.length_set, List.length_append, List.length_cons, List.length_nil, iv_length, zl_length]; omega)) [wb_bool, wb_undef, XL_nil, XL_cons, XLc_val, XLc_call, step1_eq, stepW_t, stepW_f, stepC_n, stepC_s, stepX_s, xop_eq, xopR_s, xopR_n, wantedA_eq, wantedG_n, wantedG_s, plain1_int, plain1_bool, plain1_string, bits_i64, bits_u64, bits_u32, bits_u16, bits_u8, xeqA, xarr, allK_iv, num_iv, calleeOf, xread, xeff, xbin, xint, xnil, xun, xstr, xload, xconv, xpart, xfield, xfieldAddr, xindexAddr, xindex, bnd, asInt?, xslice, xlen, xmin, xmax, xbuild, xfill, xappend, xcopy, xcells, eval_tmp, eval_const, put_at, put_none, fr0_at, cells_agg, cells_int, cells_bool, cells_string, cells_ptr, cells_slice, notTuple, tab, iv_all, hget_app, hget_app0, hget_cons0, hget_cons, set_app, set_app0, setR, setR_one, QL_nil, QL_cons, QLc_val, stepQ_t, stepQ_f, stepQC_n, stepQC_s, stepQX_s, SL_nil, SL_cons, SLc_val, stepS_t, stepS_f, thenQ_ret, inBlockQ_ret, RQ, resL, resV, ltT, ltF, leT, leF, eqT, eqF, ltTn, ltFn, leTn, leFn, eqTn, eqFn, beqT, beqF, bneT, bneF, wi64, wu64, wu32, wu16, wu8, tmodP, tdivP, hgetL, hgetNe, hgetEq, setL, nums_def, nums_len, Nat.succ_le_of_lt, List.getElem?_cons_zero, List.getElem?_cons_succ, Option.getD_some, -getElem?_pos, -getElem?_neg, Int.toNat_add, Int.toNat_mul, agB, agI, agS, agP, agL, agA, okB, okI, okS, okP, okSl, okA])
end

section
open Go Go.RowKit
set_option linter.unusedVariables false
set_option linter.unusedSimpArgs false
set_option maxRecDepth 100000
set_option maxHeartbeats 2000000

/-- r, sum, the two words of s, the rest, how much of it is filled. -/
def pcells (r s : List Int) (lo hi : Int) (rs : List Int) (f : Int) : List Value := iv .u64 r ++ (iv .u64 s ++ (.int .u64 lo :: .int .u64 hi :: (iv .u8 rs ++ [.int .i64 f])))
/-- Numbers laid over others from a place on. -/
def setI : List Int → Nat → List Int → List Int
  | l, _, [] => l
  | l, i, x :: xs => setI (l.set i x) (i + 1) xs
theorem iv_setI (k : IntKind) (xs : List Int) : ∀ (l : List Int) (i : Nat), setR (iv k l) i (iv k xs) = iv k (setI l i xs) := by
  induction xs with
  | nil => intro l i; rfl
  | cons x xs ih =>
    intro l i
    show setR ((iv k l).set i (.int k x)) (i + 1) (iv k xs) = _
    rw [iv_set, ih]
    rfl
theorem setI_len (xs : List Int) : ∀ (l : List Int) (i : Nat), (setI l i xs).length = l.length := by
  induction xs with
  | nil => intro l i; rfl
  | cons x xs ih => intro l i; show (setI (l.set i x) (i + 1) xs).length = _; rw [ih]; simp
theorem setI_get (xs : List Int) : ∀ (l : List Int) (i p : Nat), i + xs.length ≤ l.length → (setI l i xs).getD p 0 = if i ≤ p ∧ p < i + xs.length then xs.getD (p - i) 0 else l.getD p 0 := by
  induction xs with
  | nil => intro l i p _; rw [if_neg (by simp only [List.length_nil]; omega)]; rfl
  | cons x xs ih =>
    intro l i p h
    simp only [List.length_cons] at h ⊢
    show (setI (l.set i x) (i + 1) xs).getD p 0 = _
    rw [ih _ _ _ (by simp; omega), getD_setI]
    by_cases h1 : i + 1 ≤ p ∧ p < i + 1 + xs.length
    · rw [if_pos h1, if_pos (by omega), show p - i = (p - (i + 1)) + 1 by omega, List.getD_cons_succ]
    · rw [if_neg h1]
      by_cases h2 : i = p
      · subst h2
        rw [if_pos ⟨rfl, by omega⟩, if_pos (by omega), Nat.sub_self, List.getD_cons_zero]
      · rw [if_neg (by omega), if_neg (by omega)]
theorem setI_by {xs : List Int} (hx : By xs) {l : List Int} (hl : By l) {i : Nat} (h : i + xs.length ≤ l.length) : By (setI l i xs) := by
  intro y hy
  obtain ⟨p, hp, rfl⟩ := List.mem_iff_getElem.1 hy
  have e : (setI l i xs)[p] = (setI l i xs).getD p 0 := by rw [List.getD_eq_getElem?_getD, List.getElem?_eq_getElem hp]; rfl
  rw [e, setI_get _ _ _ _ h]
  split
  · exact hx.get _
  · exact hl.get _
section
variable {r s rs : List Int} {lo hi f : Int}
theorem pc_len (hr : r.length = 5) (hs : s.length = 5) (hl : rs.length = 16) : (pcells r s lo hi rs f).length = 29 := by unfold pcells; simp [hr, hs, hl]
theorem pc_r (hr : r.length = 5) (hs : s.length = 5) (hl : rs.length = 16) (i : Nat) (h : i < 5) : (pcells r s lo hi rs f)[i]? = some (.int .u64 (r.getD i 0)) := by
  unfold pcells
  rw [List.getElem?_append_left (by simp; omega)]
  exact iv_getN _ _ _ (by omega)
theorem pc_s (hr : r.length = 5) (hs : s.length = 5) (hl : rs.length = 16) (i : Nat) (h : i < 5) : (pcells r s lo hi rs f)[5 + i]? = some (.int .u64 (s.getD i 0)) := by
  unfold pcells
  rw [List.getElem?_append_right (by simp; omega), iv_length, hr, List.getElem?_append_left (by simp; omega), show 5 + i - 5 = i by omega]
  exact iv_getN _ _ _ (by omega)
theorem pc_lo (hr : r.length = 5) (hs : s.length = 5) (hl : rs.length = 16) : (pcells r s lo hi rs f)[10]? = some (.int .u64 lo) := by
  unfold pcells
  rw [List.getElem?_append_right (by simp; omega), iv_length, hr, List.getElem?_append_right (by simp; omega), iv_length, hs]
  rfl
theorem pc_hi (hr : r.length = 5) (hs : s.length = 5) (hl : rs.length = 16) : (pcells r s lo hi rs f)[11]? = some (.int .u64 hi) := by
  unfold pcells
  rw [List.getElem?_append_right (by simp; omega), iv_length, hr, List.getElem?_append_right (by simp; omega), iv_length, hs]
  rfl
theorem pc_tail (hr : r.length = 5) (hs : s.length = 5) (hl : rs.length = 16) : (pcells r s lo hi rs f).drop 12 = iv .u8 rs ++ ([.int .i64 f] : List Value) := by
  unfold pcells
  rw [List.drop_append, List.drop_of_length_le (by simp; omega), List.nil_append, iv_length, hr, List.drop_append, List.drop_of_length_le (by simp; omega), List.nil_append, iv_length, hs]
  rfl
theorem pc_rs (hr : r.length = 5) (hs : s.length = 5) (hl : rs.length = 16) (i : Nat) (h : i < 16) : (pcells r s lo hi rs f)[12 + i]? = some (.int .u8 (rs.getD i 0)) := by
  rw [← List.getElem?_drop, pc_tail hr hs hl, List.getElem?_append_left (by simp; omega)]
  exact iv_getN _ _ _ (by omega)
theorem pc_f (hr : r.length = 5) (hs : s.length = 5) (hl : rs.length = 16) : (pcells r s lo hi rs f)[28]? = some (.int .i64 f) := by
  rw [show (28 : Nat) = 12 + 16 from rfl, ← List.getElem?_drop, pc_tail hr hs hl, List.getElem?_append_right (by simp; omega), iv_length, hl]
  rfl
theorem pc_sums (hr : r.length = 5) (hs : s.length = 5) (hl : rs.length = 16) : ((pcells r s lo hi rs f).drop 5).take 5 = iv .u64 s := by
  unfold pcells
  rw [List.drop_append, List.drop_of_length_le (by simp; omega), List.nil_append, iv_length, hr, Nat.sub_self, List.drop_zero, List.take_append_of_le_length (by simp; omega), List.take_of_length_le (by simp; omega)]
theorem pc_all (hr : r.length = 5) (hs : s.length = 5) (hl : rs.length = 16) : (pcells r s lo hi rs f).take 29 = pcells r s lo hi rs f := List.take_of_length_le (by rw [pc_len hr hs hl]; omega)
theorem pc_over (hr : r.length = 5) (hs : s.length = 5) (hl : rs.length = 16) (X : List Value) (hX : X.length = 29) : setR X 0 (pcells r s lo hi rs f) = pcells r s lo hi rs f := setR_all _ _ (by rw [pc_len hr hs hl, hX])
theorem pc_setf (hr : r.length = 5) (hs : s.length = 5) (hl : rs.length = 16) (x : Int) : (pcells r s lo hi rs f).set 28 (.int .i64 x) = pcells r s lo hi rs x := by
  unfold pcells
  rw [List.set_append_right _ _ (by simp; omega), iv_length, hr, List.set_append_right _ _ (by simp; omega), iv_length, hs]
  show _ ++ (_ ++ (_ :: _ :: (iv .u8 rs ++ ([.int .i64 f] : List Value)).set 16 _)) = _
  rw [List.set_append_right _ _ (by simp; omega), iv_length, hl]
  rfl
theorem pc_sets (hr : r.length = 5) (hs : s.length = 5) (hl : rs.length = 16) (s' : List Int) (h : s'.length = 5) : setR (pcells r s lo hi rs f) 5 (iv .u64 s') = pcells r s' lo hi rs f := by
  have hp := pc_len (lo := lo) (hi := hi) (f := f) hr hs hl
  apply List.ext_getElem?
  intro j
  rw [setR_get _ _ _ _ (by rw [hp]; simp; omega)]
  simp only [iv_length, h]
  unfold pcells
  by_cases h1 : j < 5
  · rw [if_neg (by omega), List.getElem?_append_left (by simp; omega), List.getElem?_append_left (by simp; omega)]
  · rw [List.getElem?_append_right (l₁ := iv .u64 r) (by simp; omega), List.getElem?_append_right (l₁ := iv .u64 r) (by simp; omega), iv_length, hr]
    by_cases h2 : j - 5 < 5
    · rw [if_pos (by omega), List.getElem?_append_left (l₁ := iv .u64 s') (by simp; omega)]
    · rw [if_neg (by omega), List.getElem?_append_right (l₁ := iv .u64 s) (by simp; omega), List.getElem?_append_right (l₁ := iv .u64 s') (by simp; omega), iv_length, iv_length, hs, h]
theorem pc_setrs (hr : r.length = 5) (hs : s.length = 5) (hl : rs.length = 16) (l : List Int) (o : Nat) (ho : o + l.length ≤ 16) : setR (pcells r s lo hi rs f) (12 + o) (iv .u8 l) = pcells r s lo hi (setI rs o l) f := by
  have hp := pc_len (lo := lo) (hi := hi) (f := f) hr hs hl
  unfold pcells at hp ⊢
  rw [← iv_setI]
  apply List.ext_getElem?
  intro j
  rw [setR_get _ _ _ _ (by rw [hp]; simp; omega)]
  simp only [iv_length]
  by_cases h1 : j < 5
  · rw [if_neg (by omega), List.getElem?_append_left (by simp; omega), List.getElem?_append_left (by simp; omega)]
  rw [List.getElem?_append_right (l₁ := iv .u64 r) (by simp; omega), List.getElem?_append_right (l₁ := iv .u64 r) (by simp; omega), iv_length, hr]
  by_cases h2 : j - 5 < 5
  · rw [if_neg (by omega), List.getElem?_append_left (by simp; omega), List.getElem?_append_left (by simp; omega)]
  rw [List.getElem?_append_right (l₁ := iv .u64 s) (by simp; omega), List.getElem?_append_right (l₁ := iv .u64 s) (by simp; omega), iv_length, hs]
  match hj : j - 5 - 5 with
  | 0 => rw [if_neg (by omega)]; rfl
  | 1 => rw [if_neg (by omega)]; rfl
  | k + 2 =>
    simp only [List.getElem?_cons_succ]
    by_cases h3 : k < 16
    · rw [List.getElem?_append_left (by simp; omega), List.getElem?_append_left (by simp; omega), setR_get _ _ _ _ (by simp; omega)]
      simp only [iv_length]
      by_cases h4 : o ≤ k ∧ k < o + l.length
      · rw [if_pos (by omega), if_pos h4, show j - (12 + o) = k - o by omega]
      · rw [if_neg (by omega), if_neg h4]
    · rw [List.getElem?_append_right (by simp; omega), List.getElem?_append_right (by simp; omega), if_neg (by omega)]
      simp
/-- The rest as a slice of its block. -/
theorem pc_sl (hr : r.length = 5) (hs : s.length = 5) (hl : rs.length = 16) {H : AH} {b o : Nat} {ty : TypeId} {es : Option Nat} (hg : hget H b = some ⟨pcells r s lo hi rs f, ty, es⟩) (ho : o ≤ 16) (c : Nat) : ∃ k : Nat, k = 16 - o ∧ SlV H (.slice (some ⟨b, 12 + o, none⟩) k k) (iv .u8 (rs.drop o)) := by
  refine ⟨16 - o, rfl, .inr ⟨b, 12 + o, _, ?_, hg, fun i x hi => ?_⟩⟩
  · rw [iv_length, List.length_drop, hl]
  · have h1 : i < 16 - o := by
      have := (List.getElem?_eq_some_iff.1 hi).1
      simp [hl] at this
      omega
    rw [Nat.add_assoc, pc_rs hr hs hl (o + i) (by omega)]
    rw [iv_getN _ _ _ (by simp [hl]; omega)] at hi
    rw [← hi]
    congr 2
    simp [List.getD_eq_getElem?_getD]
end
end

section
open Go Go.RowKit
set_option linter.unusedVariables false
set_option linter.unusedSimpArgs false
set_option maxRecDepth 100000
set_option maxHeartbeats 4000000

theorem car_wi {l : List Int} (h : Wi l) : Wi (carF l) := by
  obtain ⟨a, b, c, d, e, rfl⟩ := five h.1
  have h0 := h.2 0
  have h1 := h.2 1
  have h2 := h.2 2
  have h3 := h.2 3
  have h4 := h.2 4
  simp only [List.getD_cons_zero, List.getD_cons_succ] at h0 h1 h2 h3 h4
  rw [carF_eq]
  refine ⟨rfl, fun k => ?_⟩
  match k with
  | 0 => simp only [List.getD_cons_zero]; omega
  | 1 => simp only [List.getD_cons_zero, List.getD_cons_succ]; omega
  | 2 => simp only [List.getD_cons_zero, List.getD_cons_succ]; omega
  | 3 => simp only [List.getD_cons_zero, List.getD_cons_succ]; omega
  | 4 => simp only [List.getD_cons_zero, List.getD_cons_succ]; omega
  | k + 5 => simp
attribute [local irreducible] pcells carF
attribute [local simp] wb_bool wb_undef XL_nil XL_cons XLc_val XLc_call step1_eq stepW_t stepW_f stepC_n stepC_s stepX_s xop_eq xopR_s xopR_n wantedA_eq wantedG_n wantedG_s plain1_int plain1_bool plain1_string bits_i64 bits_u64 bits_u32 bits_u16 bits_u8 xeqA xarr allK_iv num_iv calleeOf xread xeff xbin xint xnil xun xstr xload xconv xpart xfield xfieldAddr xindexAddr xindex bnd asInt? xslice xlen xmin xmax xbuild xfill xappend xcopy xcells eval_tmp eval_const put_at put_none fr0_at cells_agg cells_int cells_bool cells_string cells_ptr cells_slice notTuple tab iv_all hget_app hget_app0 hget_cons0 hget_cons set_app set_app0 setR setR_one QL_nil QL_cons QLc_val stepQ_t stepQ_f stepQC_n stepQC_s stepQX_s SL_nil SL_cons SLc_val stepS_t stepS_f ltT ltF leT leF eqT eqF ltTn ltFn leTn leFn eqTn eqFn beqT beqF bneT bneF wi64 wu64 wu32 wu16 wu8 tmodP tdivP hgetL hgetNe hgetEq setL nums_def nums_len Nat.succ_le_of_lt List.getElem?_cons_zero List.getElem?_cons_succ Option.getD_some Int.toNat_add Int.toNat_mul agB agI agS agP agL agA okB okI okS okP okSl okA
theorem take_ac {nro : Nat} {γ : Nat → Option Nat} {H : AH} {r s p rs : List Int} {lo hi f : Int} (hr : Nm r) (hs : Iv s) (hp : Nm p) (hl : rs.length = 16) (hn : nro ≤ H.length) (b : Nat) (hbn : nro ≤ b) (ty : TypeId) (hg : hget H b = some ⟨pcells r s lo hi rs f, ty, none⟩) :
    AC Try.prog nro γ 36 #[.pointer (some ⟨b, 0, none⟩), .agg (iv .u64 p).toArray] H (fun v' H' => ∃ L, H' = H.set b (some ⟨pcells r (takF s p r) lo hi rs f, ty, none⟩) ++ L) := by
  have hrl := hr.len
  have hsl := hs.len
  have hpl := hp.len
  have hbl := hget_lt hg
  have hcl := pc_len (lo := lo) (hi := hi) (f := f) hrl hsl hl
  have c1 := carried_vc (outT_wi hs hp hr)
  have c2 := carried_vc (car_wi (outT_wi hs hp hr))
  have hset := fun s' h => pc_sets (lo := lo) (hi := hi) (f := f) hrl hsl hl s' h
  have hFl : (takF s p r).length = 5 := (takF_iv hs hp hr).len
  have hFs := hset _ hFl
  have hF : takF s p r = carF (carF (outT s p r 5)) := rfl
  rw [← hF] at c2
  have hol := fun i => outT_len s p r i
  have hob := fun i k => outT_bd hs hp hr i k
  have hgX : ∀ L, hget (H ++ L) b = some ⟨pcells r s lo hi rs f, ty, none⟩ := fun L => hget_left' hg
  have hpt := five_take p hpl
  have cr := fun i h => pc_r (lo := lo) (hi := hi) (f := f) hrl hsl hl i h
  have cs := fun i h => pc_s (lo := lo) (hi := hi) (f := f) hrl hsl hl i h
  generalize takF s p r = F at *
  clear hF hg
  have hsX : ∀ x L, (H ++ L).set b x = H.set b x ++ L := fun x L => List.set_append_left _ _ (by omega)
  refine ac_of_aw Try.func36 rfl Try.ntmps36 Try.results36 (by simp) ?_
  refine aw_seq ?_
  (refine aw_ops (by kernel_rfl) (fun K hK => ?_); simp (disch := first | omega | (simp only [List.length_set, List.length_append, List.length_cons, List.length_nil, iv_length, zl_length]; try omega; done)) [-getElem?_pos, -getElem?_neg]; refine hK _ _ ?_; clear hK K)
  refine aw_seq ?_
  (refine aw_ops (by kernel_rfl) (fun K hK => ?_); simp (disch := first | omega | (simp only [List.length_set, List.length_append, List.length_cons, List.length_nil, iv_length, zl_length]; try omega; done)) [-getElem?_pos, -getElem?_neg]; refine hK _ _ ?_; clear hK K)
  refine aw_seq ?_
  refine aw_seq ?_
  (refine aw_ops (by kernel_rfl) (fun K hK => ?_); simp (disch := first | omega | (simp only [List.length_set, List.length_append, List.length_cons, List.length_nil, iv_length, zl_length]; try omega; done)) [-getElem?_pos, -getElem?_neg]; refine hK _ _ ?_; clear hK K)
  refine aw_block ?_
  refine aw_loop (fun q α H' => ∃ i : Nat, i + q = 5 ∧ α 8 = .int .i64 (i : Nat) ∧ α 0 = .pointer (some ⟨b, 0, none⟩) ∧ α 3 = .pointer (some ⟨H.length, 0, none⟩) ∧ α 4 = .pointer (some ⟨H.length + 1, 0, none⟩) ∧ H' = H ++ [some ⟨iv .u64 p, 64, none⟩, some ⟨iv .u64 (outT s p r i), 64, none⟩]) 5 ?_ ?_
  · exact ⟨0, by omega, by (first | (simp [put_at, put_none, fr0_at]; done) | rfl), by (first | (simp [put_at, put_none, fr0_at]; done) | rfl), by (first | (simp [put_at, put_none, fr0_at]; done) | rfl), by (first | (simp [put_at, put_none, fr0_at]; done) | rfl), by rfl⟩
  rintro q α H' ⟨i, hiq, h8, h0, h3, h4, rfl⟩
  refine aw_seq ?_
  by_cases hi : i < 5
  · have ho := hol i
    have hb1 := hob i
    have hos : outT s p r (i + 1) = innT (s.getD i 0 + p.getD i 0) r (outT s p r i) i 5 := by rw [outT]
    have csi := cs i hi
    have cpi : (iv .u64 p)[i]? = some (.int .u64 (p.getD i 0)) := iv_getN _ _ _ (by omega)
    have bs := hs.get i
    have bp := hp.get i
    generalize outT s p r i = O at *
    generalize s.getD i 0 = si at *
    generalize p.getD i 0 = pi at *
    have hi0 : innT (si + pi) r O i 0 = O := by rw [innT]
    (refine aw_ops (by kernel_rfl) (fun K hK => ?_); simp (disch := first | omega | (simp only [List.length_set, List.length_append, List.length_cons, List.length_nil, iv_length, zl_length]; try omega; done)) [-getElem?_pos, -getElem?_neg, h8]; refine hK _ _ ?_; clear hK K)
    refine aw_seq ?_
    refine aw_t (by (first | (simp [eval_tmp, put_at, hi]; done) | (simp [eval_tmp, put_at, hi]; omega))) (by kernel_rfl) ?_
    refine aw_skip ?_
    refine aw_seq ?_
    refine aw_block ?_
    refine aw_seq ?_
    (refine aw_ops (by kernel_rfl) (fun K hK => ?_); simp (disch := first | omega | (simp only [List.length_set, List.length_append, List.length_cons, List.length_nil, iv_length, zl_length]; try omega; done)) [-getElem?_pos, -getElem?_neg, h8]; refine hK _ _ ?_; clear hK K)
    refine aw_seq ?_
    (refine aw_ops (by kernel_rfl) (fun K hK => ?_); simp (disch := first | omega | (simp only [List.length_set, List.length_append, List.length_cons, List.length_nil, iv_length, zl_length]; try omega; done)) [-getElem?_pos, -getElem?_neg]; refine hK _ _ ?_; clear hK K)
    refine aw_block ?_
    refine aw_loop (fun q2 α H' => ∃ j : Nat, j + q2 = 5 ∧ α 11 = .int .i64 (j : Nat) ∧ α 5 = .int .i64 (i : Nat) ∧ α 8 = .int .i64 (i : Nat) ∧ α 0 = .pointer (some ⟨b, 0, none⟩) ∧ α 3 = .pointer (some ⟨H.length, 0, none⟩) ∧ α 4 = .pointer (some ⟨H.length + 1, 0, none⟩) ∧ H' = H ++ [some ⟨iv .u64 p, 64, none⟩, some ⟨iv .u64 (innT (si + pi) r O i j), 64, none⟩]) 5 ?_ ?_
    · exact ⟨0, by omega, by (first | (simp [put_at, put_none, fr0_at]; done) | rfl), by (first | (simp [put_at, put_none, fr0_at]; done) | rfl), by (first | (simp [put_at, put_none, fr0_at, h8]; done) | rfl), by (first | (simp [put_at, put_none, fr0_at, h0]; done) | rfl), by (first | (simp [put_at, put_none, fr0_at, h3]; done) | rfl), by (first | (simp [put_at, put_none, fr0_at, h4]; done) | rfl), by rw [hi0]⟩
    clear h8 h0 h3 h4
    rintro q2 α H' ⟨j, hjq, h11, h5, h8, h0, h3, h4, rfl⟩
    refine aw_seq ?_
    by_cases hj : j < 5
    · have crj := cr j hj
      have br := hr.get j
      have hIl := (innT_len (si + pi) r O i j).trans ho
      have hIb := fun k => innT_bd (i := i) (b := i * 450359962737049600) (by omega) (Y := si + pi) (by omega) hr hb1 j k
      have hx := prod_bd (Y := si + pi) (x := r.getD j 0) (by omega) br
      have hIs : innT (si + pi) r O i (j + 1) = if i + j < 5 then (innT (si + pi) r O i j).set (i + j) ((innT (si + pi) r O i j).getD (i + j) 0 + (si + pi) * r.getD j 0) else (innT (si + pi) r O i j).set (i + j - 5) ((innT (si + pi) r O i j).getD (i + j - 5) 0 + 5 * ((si + pi) * r.getD j 0)) := by rw [innT]
      have hg1 := hIb (i + j)
      have hg2 := hIb (i + j - 5)
      have hc1 : i + j < 5 → (iv .u64 (innT (si + pi) r O i j))[i + j]? = some (.int .u64 ((innT (si + pi) r O i j).getD (i + j) 0)) := fun _ => iv_getN _ _ _ (by omega)
      have hc2 : ¬ i + j < 5 → (iv .u64 (innT (si + pi) r O i j))[i + j - 5]? = some (.int .u64 ((innT (si + pi) r O i j).getD (i + j - 5) 0)) := fun _ => iv_getN _ _ _ (by omega)
      clear hIb hob cr cs hos hi0
      obtain ⟨I', hI'⟩ : ∃ I', I' = innT (si + pi) r O i (j + 1) := ⟨_, rfl⟩
      rw [← hI'] at hIs
      generalize innT (si + pi) r O i j = I at *
      generalize r.getD j 0 = rj at *
      have hset1 : ∀ k x, (iv .u64 I).set k (.int .u64 x) = iv .u64 (I.set k x) := fun k x => iv_set ..
      (refine aw_ops (by kernel_rfl) (fun K hK => ?_); simp (disch := first | omega | (simp only [List.length_set, List.length_append, List.length_cons, List.length_nil, iv_length, zl_length]; try omega; done)) [-getElem?_pos, -getElem?_neg, h11]; refine hK _ _ ?_; clear hK K)
      refine aw_seq ?_
      refine aw_t (by (first | (simp [eval_tmp, put_at, hj]; done) | (simp [eval_tmp, put_at, hj]; omega))) (by kernel_rfl) ?_
      refine aw_skip ?_
      refine aw_seq ?_
      refine aw_block ?_
      refine aw_seq ?_
      (refine aw_ops (by kernel_rfl) (fun K hK => ?_); simp (disch := first | omega | (simp only [List.length_set, List.length_append, List.length_cons, List.length_nil, iv_length, zl_length]; try omega; done)) [-getElem?_pos, -getElem?_neg, h11]; refine hK _ _ ?_; clear hK K)
      refine aw_seq ?_
      (refine aw_plan [] [] [0, 1, 2, 3, 4, 5, 6, 7, 8, 9, 10, 11, 12, 13, 14, 15, 16, 17] 18 0 (by kernel_rfl) (by kernel_rfl) (by kernel_rfl) (fun K hK => ?_)); simp only [sel, List.getElem?_cons_succ, List.getElem?_cons_zero, List.drop_succ_cons, List.drop_zero]; simp (disch := first | omega | (simp only [List.length_set, List.length_append, List.length_cons, List.length_nil, iv_length, zl_length]; try omega; done)) [-getElem?_pos, -getElem?_neg, h0, h3, h5, hgX, csi, cpi, crj, hcl, PL_nil, PL_cons, PLc_val, PLc_new, stepP_t, stepP_f, stepPC_n, stepPC_s, stepPX_s, stepPX_n, stepPA_t, stepPA_c, stepPA_l, stepPN_s, allocOp, reloc_sl, reloc_ptr, List.map_cons, List.map_nil, List.nil_append, List.append_assoc, List.cons_append, Nat.add_assoc]
      refine hK _ _ ?_; clear hK K
      generalize (si + pi) * rj = x at *
      refine aw_seq ?_
      by_cases hij : i + j < 5
      · rw [if_pos hij] at hIs
        have hc := hc1 hij
        obtain ⟨k, hk⟩ : ∃ k : Nat, k = i + j := ⟨_, rfl⟩
        have hk' : (i : Int) + (j : Int) = (k : Int) := by omega
        rw [← hk] at hIs hc hg1
        generalize I.getD k 0 = o at *
        (refine aw_ops (by kernel_rfl) (fun K hK => ?_); simp (disch := first | omega | (simp only [List.length_set, List.length_append, List.length_cons, List.length_nil, iv_length, zl_length]; try omega; done)) [-getElem?_pos, -getElem?_neg, h5, hk']; refine hK _ _ ?_; clear hK K)
        refine aw_t (by (first | (simp [eval_tmp, put_at]; done) | (simp [eval_tmp, put_at]; omega))) (by kernel_rfl) ?_
        (refine aw_ops (by kernel_rfl) (fun K hK => ?_); simp (disch := first | omega | (simp only [List.length_set, List.length_append, List.length_cons, List.length_nil, iv_length, zl_length]; try omega; done)) [-getElem?_pos, -getElem?_neg, h4, h5, hk', hc, hset1, ← hIs]; refine hK _ _ ?_; clear hK K)
        (refine aw_ops (by kernel_rfl) (fun K hK => ?_); simp (disch := first | omega | (simp only [List.length_set, List.length_append, List.length_cons, List.length_nil, iv_length, zl_length]; try omega; done)) [-getElem?_pos, -getElem?_neg, h11]; refine hK _ _ ?_; clear hK K)
        exact ⟨q2 - 1, by omega, j + 1, by omega, by (first | (simp [put_at, put_none, fr0_at]; done) | rfl), by (first | (simp [put_at, put_none, fr0_at, h5]; done) | rfl), by (first | (simp [put_at, put_none, fr0_at, h8]; done) | rfl), by (first | (simp [put_at, put_none, fr0_at, h0]; done) | rfl), by (first | (simp [put_at, put_none, fr0_at, h3]; done) | rfl), by (first | (simp [put_at, put_none, fr0_at, h4]; done) | rfl), by rw [← hI']⟩
      · rw [if_neg hij] at hIs
        have hc := hc2 hij
        obtain ⟨k, hk⟩ : ∃ k : Nat, k = i + j - 5 := ⟨_, rfl⟩
        have hk' : (i : Int) + (j : Int) = (k : Int) + 5 := by omega
        rw [← hk] at hIs hc hg2
        generalize I.getD k 0 = o at *
        (refine aw_ops (by kernel_rfl) (fun K hK => ?_); simp (disch := first | omega | (simp only [List.length_set, List.length_append, List.length_cons, List.length_nil, iv_length, zl_length]; try omega; done)) [-getElem?_pos, -getElem?_neg, h5, hk']; refine hK _ _ ?_; clear hK K)
        refine aw_f (by (first | (simp [eval_tmp, put_at]; done) | (simp [eval_tmp, put_at]; omega))) (by kernel_rfl) ?_
        (refine aw_ops (by kernel_rfl) (fun K hK => ?_); simp (disch := first | omega | (simp only [List.length_set, List.length_append, List.length_cons, List.length_nil, iv_length, zl_length]; try omega; done)) [-getElem?_pos, -getElem?_neg, h4, h5, hk', hc, hset1, ← hIs]; refine hK _ _ ?_; clear hK K)
        (refine aw_ops (by kernel_rfl) (fun K hK => ?_); simp (disch := first | omega | (simp only [List.length_set, List.length_append, List.length_cons, List.length_nil, iv_length, zl_length]; try omega; done)) [-getElem?_pos, -getElem?_neg, h11]; refine hK _ _ ?_; clear hK K)
        exact ⟨q2 - 1, by omega, j + 1, by omega, by (first | (simp [put_at, put_none, fr0_at]; done) | rfl), by (first | (simp [put_at, put_none, fr0_at, h5]; done) | rfl), by (first | (simp [put_at, put_none, fr0_at, h8]; done) | rfl), by (first | (simp [put_at, put_none, fr0_at, h0]; done) | rfl), by (first | (simp [put_at, put_none, fr0_at, h3]; done) | rfl), by (first | (simp [put_at, put_none, fr0_at, h4]; done) | rfl), by rw [← hI']⟩
    · (refine aw_ops (by kernel_rfl) (fun K hK => ?_); simp (disch := first | omega | (simp only [List.length_set, List.length_append, List.length_cons, List.length_nil, iv_length, zl_length]; try omega; done)) [-getElem?_pos, -getElem?_neg, h11]; refine hK _ _ ?_; clear hK K)
      refine aw_seq ?_
      refine aw_f (by (first | (simp [eval_tmp, put_at, hj]; done) | (simp [eval_tmp, put_at, hj]; omega))) (by kernel_rfl) ?_
      refine aw_exit ?_
      obtain rfl : j = 5 := by omega
      (refine aw_ops (by kernel_rfl) (fun K hK => ?_); simp (disch := first | omega | (simp only [List.length_set, List.length_append, List.length_cons, List.length_nil, iv_length, zl_length]; try omega; done)) [-getElem?_pos, -getElem?_neg, h8]; refine hK _ _ ?_; clear hK K)
      exact ⟨q - 1, by omega, i + 1, by omega, by (first | (simp [put_at, put_none, fr0_at]; done) | rfl), by (first | (simp [put_at, put_none, fr0_at, h0]; done) | rfl), by (first | (simp [put_at, put_none, fr0_at, h3]; done) | rfl), by (first | (simp [put_at, put_none, fr0_at, h4]; done) | rfl), by rw [hos]⟩
  · (refine aw_ops (by kernel_rfl) (fun K hK => ?_); simp (disch := first | omega | (simp only [List.length_set, List.length_append, List.length_cons, List.length_nil, iv_length, zl_length]; try omega; done)) [-getElem?_pos, -getElem?_neg, h8]; refine hK _ _ ?_; clear hK K)
    refine aw_seq ?_
    refine aw_f (by (first | (simp [eval_tmp, put_at, hi]; done) | (simp [eval_tmp, put_at, hi]; omega))) (by kernel_rfl) ?_
    refine aw_exit ?_
    obtain rfl : i = 5 := by omega
    have ho := hol 5
    clear hol hob cs cr
    generalize outT s p r 5 = O at *
    have hto := five_take O ho
    refine aw_ops (by kernel_rfl) (fun K hK => ?_)
    simp (disch := first | omega | (simp only [List.length_set, List.length_append, List.length_cons, List.length_nil, iv_length, zl_length]; try omega; done)) [-getElem?_pos, -getElem?_neg, h0, h4, hto, ho]
    refine ⟨by kernel_rfl, ac_of_vc (by simp [pv_iv, pv_int, pv_bool, pv_string, pv_tup2, pv_tup3, iv_plain, p2_int, p2_bool, p2_string]) c1 ?_⟩
    try simp (disch := first | omega | (simp only [List.length_set, List.length_append, List.length_cons, List.length_nil, iv_length, zl_length]; try omega; done)) [-getElem?_pos, -getElem?_neg]
    refine ⟨by kernel_rfl, ac_of_vc (by simp [pv_iv, pv_int, pv_bool, pv_string, pv_tup2, pv_tup3, iv_plain, p2_int, p2_bool, p2_string]) c2 ?_⟩
    simp (disch := first | omega | (simp only [List.length_set, List.length_append, List.length_cons, List.length_nil, iv_length, zl_length]; try omega; done)) [-getElem?_pos, -getElem?_neg, h0, hgX, hcl, hFl, hFs, hsX]
    refine hK _ _ ?_; clear hK K
    simp only [RQ]
    exact ⟨[], .tuple #[], rfl, rfl, _, rfl⟩
end

section
open Go Go.RowKit
set_option linter.unusedVariables false
set_option linter.unusedSimpArgs false
set_option maxRecDepth 100000
set_option maxHeartbeats 2000000

/-- Block k of a text. -/
def blk (T : List Int) (k : Nat) : List Int := (T.drop (16 * k)).take 16
/-- The sum behind k blocks. -/
def ac (R : Int) (T : List Int) : Nat → Int
  | 0 => 0
  | k + 1 => (ac R T k + (dv (blk T k) + 256 ^ (blk T k).length)) * R % pP
theorem blk_app {T U : List Int} {k : Nat} (h : 16 * k + 16 ≤ T.length) : blk (T ++ U) k = blk T k := by
  unfold blk
  rw [List.drop_append_of_le_length (by omega), List.take_append_of_le_length (by rw [List.length_drop]; omega)]
theorem ac_app {R : Int} {T U : List Int} : ∀ k, 16 * k ≤ T.length → ac R (T ++ U) k = ac R T k
  | 0, _ => rfl
  | k + 1, h => by rw [ac, ac, ac_app k (by omega), blk_app (by omega)]
theorem setI_take {rs l : List Int} {o : Nat} (h : o + l.length ≤ rs.length) : (setI rs o l).take (o + l.length) = rs.take o ++ l := by
  apply List.ext_getElem?
  intro p
  by_cases h1 : p < o + l.length
  · have h2 := setI_get l rs o p h
    rw [List.getD_eq_getElem?_getD, List.getElem?_eq_getElem (by rw [setI_len]; omega)] at h2
    rw [List.getElem?_take_of_lt h1, List.getElem?_eq_getElem (by rw [setI_len]; omega)]
    by_cases h3 : p < o
    · rw [if_neg (by omega), List.getD_eq_getElem?_getD, List.getElem?_eq_getElem (by omega)] at h2
      rw [List.getElem?_append_left (by rw [List.length_take]; omega), List.getElem?_take_of_lt h3, List.getElem?_eq_getElem (by omega)]
      exact congrArg some h2
    · rw [if_pos (by omega), List.getD_eq_getElem?_getD, List.getElem?_eq_getElem (by omega)] at h2
      rw [List.getElem?_append_right (by rw [List.length_take]; omega), List.length_take, Nat.min_eq_left (by omega), List.getElem?_eq_getElem (by omega)]
      exact congrArg some h2
  · rw [List.getElem?_eq_none (by rw [List.length_take, setI_len]; omega), List.getElem?_eq_none (by rw [List.length_append, List.length_take]; omega)]
structure PS (r T s rs : List Int) (o : Nat) : Prop where
  iv : Iv s
  hl : rs.length = 16
  by' : By rs
  ho : o = T.length % 16
  hv : v5 s % pP = ac (v5 r) T (T.length / 16)
  hr : rs.take o = T.drop (16 * (T.length / 16))
theorem PS.lt {r T s rs : List Int} {o : Nat} (h : PS r T s rs o) : o < 16 := by have := h.ho; omega
theorem v5_zl : v5 (zl 5) = 0 := rfl
theorem PS.start (r : List Int) : PS r [] (zl 5) (zl 16) 0 :=
  ⟨⟨0, 0, 0, 0, 0, rfl, by omega, by omega, by omega, by omega, by omega⟩, by simp, zl_by 16, rfl, rfl, rfl⟩
theorem PS.part {r T s rs l : List Int} {o : Nat} (h : PS r T s rs o) (hl : By l) (h1 : o + l.length < 16) : PS r (T ++ l) s (setI rs o l) (o + l.length) := by
  have ho := h.ho
  have hlen : (T ++ l).length = T.length + l.length := List.length_append
  have e1 : (T ++ l).length / 16 = T.length / 16 := by omega
  refine ⟨h.iv, by rw [setI_len, h.hl], setI_by hl h.by' (by rw [h.hl]; omega), by omega, ?_, ?_⟩
  · rw [e1, ac_app _ (by omega)]; exact h.hv
  · rw [e1, setI_take (by rw [h.hl]; omega), h.hr, List.drop_append_of_le_length (by omega)]
theorem PS.full {r T s rs l p : List Int} {o : Nat} (h : PS r T s rs o) (hr : Nm r) (hl : By l) (h1 : o + l.length = 16) (hp : Nm p) (hpv : v5 p = dv (setI rs o l) + 340282366920938463463374607431768211456) : PS r (T ++ l) (takF s p r) (setI rs o l) 0 := by
  have ho := h.ho
  have hlen : (T ++ l).length = T.length + l.length := List.length_append
  have e1 : (T ++ l).length / 16 = T.length / 16 + 1 := by omega
  have hsl : (setI rs o l).length = 16 := by rw [setI_len, h.hl]
  have e2 := setI_take (rs := rs) (l := l) (o := o) (by rw [h.hl]; omega)
  rw [h1, List.take_of_length_le (by omega), h.hr] at e2
  have e3 : blk (T ++ l) (T.length / 16) = setI rs o l := by
    unfold blk
    rw [List.drop_append_of_le_length (by omega), e2, List.take_of_length_le]
    rw [List.length_append, List.length_drop]; omega
  refine ⟨takF_iv h.iv hp hr, hsl, setI_by hl h.by' (by rw [h.hl]; omega), by omega, ?_, ?_⟩
  · rw [e1, ac, e3, ac_app _ (by omega), ← h.hv, takF_p h.iv hp hr, hpv, hsl, show (256 : Int) ^ 16 = 340282366920938463463374607431768211456 by decide, Int.mul_emod (v5 s % pP + _), Int.add_emod (v5 s % pP), Int.emod_emod, ← Int.add_emod, ← Int.mul_emod]
  · rw [e1, List.take_zero, List.drop_of_length_le (by omega)]
/-- The bytes of a text. -/
theorem nums_extract (s : ByteArray) (a b : Nat) : nums (s.extract a b) = ((nums s).drop a).take (b - a) := by
  unfold nums
  rw [Lib.extract_data, List.map_take, List.map_drop]
theorem nums_drop (s : ByteArray) (a : Nat) : nums (s.extract a s.size) = (nums s).drop a := by
  rw [nums_extract, List.take_of_length_le (by rw [List.length_drop, nums_len]; omega)]
/-- Parts as one text. -/
def cat : List ByteArray → List Int
  | [] => []
  | p :: r => nums p ++ cat r
theorem cat_append (l r : List ByteArray) : cat (l ++ r) = cat l ++ cat r := by
  induction l with
  | nil => rfl
  | cons p l ih => show nums p ++ cat (l ++ r) = nums p ++ cat l ++ cat r; rw [ih, List.append_assoc]
theorem cat_by (l : List ByteArray) : By (cat l) := by
  induction l with
  | nil => intro x hx; cases hx
  | cons p l ih =>
    intro x hx
    rcases List.mem_append.1 hx with h | h
    · exact nums_bd p x h
    · exact ih x h
/-- A slice of strings that lies apart from block b. -/
def SlS (H : AH) (b : Nat) (v : Value) (ps : List ByteArray) : Prop :=
  (∃ a, v = .slice a 0 0 ∧ ps = []) ∨ ∃ j off k, v = .slice (some ⟨j, off, none⟩) ps.length ps.length ∧ j ≠ b ∧ hget H j = some k ∧ ∀ i p, ps[i]? = some p → k.cells[off + i]? = some (.string p)
end

section
open Go Go.RowKit
set_option linter.unusedSimpArgs false
set_option linter.unusedVariables false
set_option maxRecDepth 100000
set_option maxHeartbeats 4000000

theorem set_self {H : AH} {b : Nat} {k : Blk} (h : hget H b = some k) : H.set b (some k) = H := by
  have h2 := hget_some h
  apply List.ext_getElem?
  intro i
  rw [List.getElem?_set]
  split
  · rename_i e; subst e
    split
    · exact h2.symm
    · rename_i h3; exact absurd (hget_lt h) h3
  · rfl
attribute [local irreducible] pcells carF takF dv ac setI
attribute [local simp] wb_bool wb_undef XL_nil XL_cons XLc_val XLc_call step1_eq stepW_t stepW_f stepC_n stepC_s stepX_s xop_eq xopR_s xopR_n wantedA_eq wantedG_n wantedG_s plain1_int plain1_bool plain1_string bits_i64 bits_u64 bits_u32 bits_u16 bits_u8 xeqA xarr allK_iv num_iv calleeOf xread xeff xbin xint xnil xun xstr xload xconv xpart xfield xfieldAddr xindexAddr xindex bnd asInt? xslice xlen xmin xmax xbuild xfill xappend xcopy xcells eval_tmp eval_const put_at put_none fr0_at cells_agg cells_int cells_bool cells_string cells_ptr cells_slice notTuple tab iv_all hget_app hget_app0 hget_cons0 hget_cons set_app set_app0 setR setR_one QL_nil QL_cons QLc_val stepQ_t stepQ_f stepQC_n stepQC_s stepQX_s SL_nil SL_cons SLc_val stepS_t stepS_f ltT ltF leT leF eqT eqF ltTn ltFn leTn leFn eqTn eqFn beqT beqF bneT bneF wi64 wu64 wu32 wu16 wu8 tmodP tdivP hgetL hgetNe hgetEq setL nums_def nums_len Nat.succ_le_of_lt List.getElem?_cons_zero List.getElem?_cons_succ Option.getD_some Int.toNat_add Int.toNat_mul agB agI agS agP agL agA okB okI okS okP okSl okA
theorem write_ac {nro : Nat} {γ : Nat → Option Nat} {H : AH} {r T s rs : List Int} {lo hi : Int} {o : Nat} (hr : Nm r) (hP : PS r T s rs o) (hn : nro ≤ H.length) (b : Nat) (hbn : nro ≤ b) (ty : TypeId) (hg : hget H b = some ⟨pcells r s lo hi rs o, ty, none⟩)
    (ps : List ByteArray) (v : Value) (hv : SlS H b v ps) (hlen : ps.length ≤ 4611686018427387904) :
    AC Try.prog nro γ 24 #[.pointer (some ⟨b, 0, none⟩), v] H (fun v' H' => ∃ s' rs' o' L, PS r (T ++ cat ps) s' rs' o' ∧ H' = H.set b (some ⟨pcells r s' lo hi rs' (o' : Nat), ty, none⟩) ++ L) := by
  refine ac_of_aw Try.func24 rfl Try.ntmps24 Try.results24 (by simp) ?_
  have hbl := hget_lt hg
  have hrl := hr.len
  have hgX : ∀ x L, hget (H.set b x ++ L) b = x := fun x L => by rw [hget_left (by simp; omega), hget_set_eq hbl]
  have hsX : ∀ x y L, (H.set b x ++ L).set b y = H.set b y ++ L := fun x y L => by rw [List.set_append_left _ _ (by simp; omega), List.set_set]
  have hxl : xlen Try.prog 24 v = some (.int .i64 ps.length) := by
    rcases hv with ⟨a, rfl, rfl⟩ | ⟨j, off, k, rfl, _⟩
    · simp [xlen, tab]
    · simp [xlen, tab]
  refine aw_seq ?_
  refine aw_seq ?_
  (refine aw_ops (by kernel_rfl) (fun K hK => ?_); simp (disch := first | omega | (simp only [List.length_set, List.length_append, List.length_cons, List.length_nil, iv_length, zl_length]; try omega; done)) [-getElem?_pos, -getElem?_neg]; refine hK _ _ ?_; clear hK K)
  refine aw_f (by (first | (simp [eval_tmp, put_at]; done) | (simp [eval_tmp, put_at]; omega))) (by kernel_rfl) ?_
  refine aw_skip ?_
  refine aw_seq ?_
  (refine aw_ops (by kernel_rfl) (fun K hK => ?_); simp (disch := first | omega | (simp only [List.length_set, List.length_append, List.length_cons, List.length_nil, iv_length, zl_length]; try omega; done)) [-getElem?_pos, -getElem?_neg, -xlen, hxl]; refine hK _ _ ?_; clear hK K)
  refine aw_block ?_
  refine aw_loop (fun q α H' => ∃ i S R p L, i + q = ps.length ∧ α 11 = .int .i64 (i : Nat) ∧ α 10 = .int .i64 ps.length ∧ α 9 = v ∧ α 0 = .pointer (some ⟨b, 0, none⟩) ∧ PS r (T ++ cat (ps.take i)) S R p ∧
    H' = H.set b (some ⟨pcells r S lo hi R (p : Nat), ty, none⟩) ++ L) ps.length ?_ ?_
  · exact ⟨0, s, rs, o, [], by omega, by (first | (simp [put_at, put_none, fr0_at]; done) | rfl), by (first | (simp [put_at, put_none, fr0_at]; done) | rfl), by (first | (simp [put_at, put_none, fr0_at]; done) | rfl), by (first | (simp [put_at, put_none, fr0_at]; done) | rfl), by rw [List.take_zero]; simpa [cat] using hP, by rw [set_self hg]; simp⟩
  clear hP hg
  rintro q α H' ⟨i, S, R, p, L, hiq, h11, h10, h9, h0, hS, rfl⟩
  refine aw_seq ?_
  (refine aw_ops (by kernel_rfl) (fun K hK => ?_); simp (disch := first | omega | (simp only [List.length_set, List.length_append, List.length_cons, List.length_nil, iv_length, zl_length]; try omega; done)) [-getElem?_pos, -getElem?_neg, h11, h10]; refine hK _ _ ?_; clear hK K)
  refine aw_seq ?_
  by_cases hlt : (i : Int) < ps.length
  · refine aw_t (by (first | (simp [eval_tmp, put_at, hlt]; done) | (simp [eval_tmp, put_at, hlt]; omega))) (by kernel_rfl) ?_
    refine aw_skip ?_
    refine aw_seq ?_
    refine aw_block ?_
    refine aw_seq ?_
    have hi' : i < ps.length := by omega
    rcases hv with ⟨a, rfl, rfl⟩ | ⟨j, off, k, rfl, hjb, hj, hk⟩
    · simp at hi'
    have hjl := hget_lt hj
    have hki := hk i ps[i] (List.getElem?_eq_getElem hi')
    have hcat : cat (ps.take (i + 1)) = cat (ps.take i) ++ nums ps[i] := by
      rw [List.take_add_one, List.getElem?_eq_getElem hi', cat_append]
      simp [cat]
    obtain ⟨pt, hpt⟩ : ∃ p, p = ps[i] := ⟨_, rfl⟩
    rw [← hpt] at hcat hki
    (refine aw_ops (by kernel_rfl) (fun K hK => ?_); simp (disch := first | omega | (simp only [List.length_set, List.length_append, List.length_cons, List.length_nil, iv_length, zl_length]; try omega; done)) [-getElem?_pos, -getElem?_neg, h9, h11, hj, hki]; refine hK _ _ ?_; clear hK K)
    refine aw_block ?_
    refine aw_loop (fun q α H' => ∃ t W S R p L, q = t.size ∧ α 5 = .string t ∧ α 11 = .int .i64 (i : Nat) ∧ α 10 = .int .i64 ps.length ∧ α 9 = .slice (some ⟨j, off, none⟩) ps.length ps.length ∧ α 0 = .pointer (some ⟨b, 0, none⟩) ∧ PS r W S R p ∧ W ++ nums t = T ++ cat (ps.take (i + 1)) ∧
      H' = H.set b (some ⟨pcells r S lo hi R (p : Nat), ty, none⟩) ++ L) pt.size ?_ ?_
    · exact ⟨pt, _, S, R, p, L, rfl, by (first | (simp [put_at, put_none, fr0_at]; done) | rfl), by (first | (simp [put_at, put_none, fr0_at, h11]; done) | rfl), by (first | (simp [put_at, put_none, fr0_at, h10]; done) | rfl), by (first | (simp [put_at, put_none, fr0_at, h9]; done) | rfl), by (first | (simp [put_at, put_none, fr0_at, h0]; done) | rfl), hS, by rw [hcat, List.append_assoc], rfl⟩
    clear h11 h10 h9 h0 hS S R p L hki
    rintro q' α H' ⟨t, W, S, R, p, L, rfl, h5, h11, h10, h9, h0, hS, hW, rfl⟩
    refine aw_seq ?_
    refine aw_seq ?_
    (refine aw_ops (by kernel_rfl) (fun K hK => ?_); simp (disch := first | omega | (simp only [List.length_set, List.length_append, List.length_cons, List.length_nil, iv_length, zl_length]; try omega; done)) [-getElem?_pos, -getElem?_neg, h5]; refine hK _ _ ?_; clear hK K)
    by_cases hp : 0 < t.size
    · have hp' : (0 : Int) < t.size := by omega
      refine aw_t (by (first | (simp [eval_tmp, put_at, hp']; done) | (simp [eval_tmp, put_at, hp']; omega))) (by kernel_rfl) ?_
      refine aw_skip ?_
      refine aw_block ?_
      refine aw_seq ?_
      have hSl := hS.iv.len
      have hRl := hS.hl
      have o0 := hS.lt
      obtain ⟨k, hk⟩ : ∃ k : Nat, k = min t.size (16 - p) := ⟨_, rfl⟩
      have hk0 : 0 < k := by omega
      have hk1 : k ≤ t.size := by omega
      have hlt1 : ((nums t).take k).length = k := by rw [List.length_take, nums_len]; omega
      have hby : By ((nums t).take k) := By.take (fun x hx => nums_bd t x hx) k
      have hsr := pc_setrs (lo := lo) (hi := hi) (f := (p : Int)) hrl hSl hRl ((nums t).take k) p (by omega)
      have hcl := pc_len (lo := lo) (hi := hi) (f := (p : Int)) hrl hSl hRl
      have cf := pc_f (lo := lo) (hi := hi) (f := (p : Int)) hrl hSl hRl
      (refine aw_plan [] [] [0, 1, 2, 3, 4, 5, 6, 7, 8] 9 2 (by kernel_rfl) (by kernel_rfl) (by kernel_rfl) (fun K hK => ?_)); simp only [sel, List.getElem?_cons_succ, List.getElem?_cons_zero, List.drop_succ_cons, List.drop_zero]; simp (disch := first | omega | (simp only [List.length_set, List.length_append, List.length_cons, List.length_nil, iv_length, zl_length]; try omega; done)) [-getElem?_pos, -getElem?_neg, h0, h5, hgX, cf, hcl, ← hk, iv_take, hsr, hsX, PL_nil, PL_cons, PLc_val, PLc_new, stepP_t, stepP_f, stepPC_n, stepPC_s, stepPX_s, stepPX_n, stepPA_t, stepPA_c, stepPA_l, stepPN_s, allocOp, reloc_sl, reloc_ptr, List.map_cons, List.map_nil, List.nil_append, List.append_assoc, List.cons_append, Nat.add_assoc]
      refine hK _ _ ?_; clear hK K
      refine aw_seq ?_
      (refine aw_ops (by kernel_rfl) (fun K hK => ?_); simp (disch := first | omega | (simp only [List.length_set, List.length_append, List.length_cons, List.length_nil, iv_length, zl_length]; try omega; done)) [-getElem?_pos, -getElem?_neg, h5]; refine hK _ _ ?_; clear hK K)
      refine aw_seq ?_
      have hR2 : (setI R p ((nums t).take k)).length = 16 := by rw [setI_len]; exact hRl
      have hRb : By (setI R p ((nums t).take k)) := setI_by hby hS.by' (by omega)
      have hpart : p + k < 16 → PS r (W ++ (nums t).take k) S (setI R p ((nums t).take k)) (p + k) := fun h => by
        have := hS.part hby (by rw [hlt1]; exact h)
        rw [hlt1] at this
        exact this
      have hfull := fun pl => hS.full (l := (nums t).take k) (p := pl) hr hby
      rw [hlt1] at hfull
      have hWW : W ++ (nums t).take k ++ nums (t.extract k t.size) = T ++ cat (ps.take (i + 1)) := by
        rw [nums_drop, List.append_assoc, List.take_append_drop]; exact hW
      have hps : (t.extract k t.size).size = t.size - k := by rw [← nums_len, nums_drop, List.length_drop, nums_len]
      have cl2 := fun f => pc_len (lo := lo) (hi := hi) (f := f) hrl hSl hR2
      have cf2 := fun f => pc_f (lo := lo) (hi := hi) (f := f) hrl hSl hR2
      have cs2 := fun f x => pc_setf (lo := lo) (hi := hi) (f := f) hrl hSl hR2 x
      generalize (nums t).take k = l at *
      generalize setI R p l = R' at *
      obtain ⟨pk, hpk⟩ : ∃ pk : Nat, pk = p + k := ⟨_, rfl⟩
      have hpk' : (p : Int) + (k : Int) = (pk : Int) := by omega
      rw [← hpk] at hpart hfull
      clear hsr hcl cf
      (refine aw_ops (by kernel_rfl) (fun K hK => ?_); simp (disch := first | omega | (simp only [List.length_set, List.length_append, List.length_cons, List.length_nil, iv_length, zl_length]; try omega; done)) [-getElem?_pos, -getElem?_neg, h0, hgX, cl2, cf2, cs2, hsX, hpk', hbn]; refine hK _ _ ?_; clear hK K)
      refine aw_seq ?_
      by_cases hz : pk = 16
      · have hz' : (pk : Int) = 16 := by omega
        (refine aw_ops (by kernel_rfl) (fun K hK => ?_); simp (disch := first | omega | (simp only [List.length_set, List.length_append, List.length_cons, List.length_nil, iv_length, zl_length]; try omega; done)) [-getElem?_pos, -getElem?_neg, h0, hgX, cl2, cf2, hz']; refine hK _ _ ?_; clear hK K)
        refine aw_t (by (first | (simp [eval_tmp, put_at]; done) | (simp [eval_tmp, put_at]; omega))) (by kernel_rfl) ?_
        refine aw_seq ?_
        have hg2 : ∀ L2, hget (H.set b (some ⟨pcells r S lo hi R' 16, ty, none⟩) ++ L ++ L2) b = some ⟨pcells r S lo hi R' 16, ty, none⟩ := fun L2 => by rw [List.append_assoc]; exact hgX _ _
        have hw1 : ∀ L2, AC Try.prog (H.set b (some ⟨pcells r S lo hi R' 16, ty, none⟩) ++ L ++ L2).length γ 35 #[.slice (some ⟨b, 12, none⟩) 16 16] (H.set b (some ⟨pcells r S lo hi R' 16, ty, none⟩) ++ L ++ L2) (fun v' _ => v' = .int .u64 (dv (R'.take 8))) := fun L2 => by
          obtain ⟨k2, rfl, hsv⟩ := pc_sl hrl hSl hR2 (hg2 L2) (o := 0) (by omega) 0
          exact word_rc hRb hsv (by rw [hR2]; omega)
        have hw2 : ∀ L2, AC Try.prog (H.set b (some ⟨pcells r S lo hi R' 16, ty, none⟩) ++ L ++ L2).length γ 35 #[.slice (some ⟨b, 20, none⟩) 8 8] (H.set b (some ⟨pcells r S lo hi R' 16, ty, none⟩) ++ L ++ L2) (fun v' _ => v' = .int .u64 (dv ((R'.drop 8).take 8))) := fun L2 => by
          obtain ⟨k2, rfl, hsv⟩ := pc_sl hrl hSl hR2 (hg2 L2) (o := 8) (by omega) 0
          exact word_rc (hRb.drop 8) hsv (by rw [List.length_drop, hR2]; omega)
        have hd8 : (R'.drop 8).take 8 = R'.drop 8 := List.take_of_length_le (by rw [List.length_drop, hR2]; omega)
        have hds := dv_split (l := R') (i := 8) (by omega)
        have hb1 := dv_bd (hRb.take 8)
        have hb2 := dv_bd (hRb.drop 8)
        rw [List.length_take, hR2] at hb1
        rw [List.length_drop, hR2] at hb2
        rw [show (256 : Int) ^ min 8 16 = 18446744073709551616 by decide] at hb1
        rw [show (256 : Int) ^ (16 - 8) = 18446744073709551616 by decide] at hb2
        rw [show (256 : Int) ^ 8 = 18446744073709551616 by decide] at hds
        rw [hd8] at hw2
        obtain ⟨pl, hmk, hpn, hp5⟩ := make_vc hb1 hb2 (top := 1) (by omega)
        have hfin := hfull pl hz hpn (by rw [hp5, hds]; omega)
        have hcf := fun s' f => pc_f (r := r) (s := s') (rs := R') (lo := lo) (hi := hi) (f := f)
        generalize dv (R'.take 8) = d1 at *
        generalize dv (R'.drop 8) = d2 at *
        (refine aw_plan [] [] [0, 1, 2, 3, 4, 5, 6, 7, 8, 9, 10, 11] 12 1 (by kernel_rfl) (by kernel_rfl) (by kernel_rfl) (fun K hK => ?_)); simp only [sel, List.getElem?_cons_succ, List.getElem?_cons_zero, List.drop_succ_cons, List.drop_zero]; simp (disch := first | omega | (simp only [List.length_set, List.length_append, List.length_cons, List.length_nil, iv_length, zl_length]; try omega; done)) [-getElem?_pos, -getElem?_neg, h0, hgX, cl2, cf2, PL_nil, PL_cons, PLc_val, PLc_new, stepP_t, stepP_f, stepPC_n, stepPC_s, stepPX_s, stepPX_n, stepPA_t, stepPA_c, stepPA_l, stepPN_s, allocOp, reloc_sl, reloc_ptr, List.map_cons, List.map_nil, List.nil_append, List.append_assoc, List.cons_append, Nat.add_assoc]
        refine PLc_call (by kernel_rfl) (fun L2 hL => hw1 L2) (by simp [pv_iv, pv_int, pv_bool, pv_string, pv_tup2, pv_tup3, iv_plain, p2_int, p2_bool, p2_string]) ?_
        try simp (disch := first | omega | (simp only [List.length_set, List.length_append, List.length_cons, List.length_nil, iv_length, zl_length]; try omega; done)) [-getElem?_pos, -getElem?_neg, h0, hgX, cl2, cf2, PL_nil, PL_cons, PLc_val, PLc_new, stepP_t, stepP_f, stepPC_n, stepPC_s, stepPX_s, stepPX_n, stepPA_t, stepPA_c, stepPA_l, stepPN_s, allocOp, reloc_sl, reloc_ptr, List.map_cons, List.map_nil, List.nil_append, List.append_assoc, List.cons_append, Nat.add_assoc]
        refine PLc_call (by kernel_rfl) (fun L2 hL => hw2 L2) (by simp [pv_iv, pv_int, pv_bool, pv_string, pv_tup2, pv_tup3, iv_plain, p2_int, p2_bool, p2_string]) ?_
        try simp (disch := first | omega | (simp only [List.length_set, List.length_append, List.length_cons, List.length_nil, iv_length, zl_length]; try omega; done)) [-getElem?_pos, -getElem?_neg, h0, hgX, cl2, cf2, PL_nil, PL_cons, PLc_val, PLc_new, stepP_t, stepP_f, stepPC_n, stepPC_s, stepPX_s, stepPX_n, stepPA_t, stepPA_c, stepPA_l, stepPN_s, allocOp, reloc_sl, reloc_ptr, List.map_cons, List.map_nil, List.nil_append, List.append_assoc, List.cons_append, Nat.add_assoc]
        refine PLc_call (by kernel_rfl) (fun L2 hL => ac_of_vc (by simp [pv_iv, pv_int, pv_bool, pv_string, pv_tup2, pv_tup3, iv_plain, p2_int, p2_bool, p2_string]) hmk rfl) (by simp [pv_iv, pv_int, pv_bool, pv_string, pv_tup2, pv_tup3, iv_plain, p2_int, p2_bool, p2_string]) ?_
        try simp (disch := first | omega | (simp only [List.length_set, List.length_append, List.length_cons, List.length_nil, iv_length, zl_length]; try omega; done)) [-getElem?_pos, -getElem?_neg, h0, hgX, cl2, cf2, PL_nil, PL_cons, PLc_val, PLc_new, stepP_t, stepP_f, stepPC_n, stepPC_s, stepPX_s, stepPX_n, stepPA_t, stepPA_c, stepPA_l, stepPN_s, allocOp, reloc_sl, reloc_ptr, List.map_cons, List.map_nil, List.nil_append, List.append_assoc, List.cons_append, Nat.add_assoc]
        refine ⟨by kernel_rfl, AC.mono (take_ac hr hS.iv hpn hR2 (by simp; omega) b hbn ty (hgX _ _)) ?_⟩
        rintro v' H2 ⟨L2, rfl⟩
        have hSl2 := (takF_iv hS.iv hpn hr).len
        generalize takF S pl r = S2 at *
        have cl3 := fun f => pc_len (lo := lo) (hi := hi) (f := f) hrl hSl2 hR2
        have cs3 := fun f x => pc_setf (lo := lo) (hi := hi) (f := f) hrl hSl2 hR2 x
        try simp (disch := first | omega | (simp only [List.length_set, List.length_append, List.length_cons, List.length_nil, iv_length, zl_length]; try omega; done)) [-getElem?_pos, -getElem?_neg, h0, hgX, cl3, PL_nil, PL_cons, PLc_val, PLc_new, stepP_t, stepP_f, stepPC_n, stepPC_s, stepPX_s, stepPX_n, stepPA_t, stepPA_c, stepPA_l, stepPN_s, allocOp, reloc_sl, reloc_ptr, List.map_cons, List.map_nil, List.nil_append, List.append_assoc, List.cons_append, Nat.add_assoc]
        refine hK _ _ ?_; clear hK K
        (refine aw_ops (by kernel_rfl) (fun K hK => ?_); simp (disch := first | omega | (simp only [List.length_set, List.length_append, List.length_cons, List.length_nil, iv_length, zl_length]; try omega; done)) [-getElem?_pos, -getElem?_neg, h0, hgX, cl3, cs3, hsX, hbn]; refine hK _ _ ?_; clear hK K)
        exact ⟨(t.extract k t.size).size, by omega, t.extract k t.size, _, S2, R', 0, _, rfl, by (first | (simp [put_at, put_none, fr0_at]; done) | rfl), by (first | (simp [put_at, put_none, fr0_at, h11]; done) | rfl), by (first | (simp [put_at, put_none, fr0_at, h10]; done) | rfl), by (first | (simp [put_at, put_none, fr0_at, h9]; done) | rfl), by (first | (simp [put_at, put_none, fr0_at, h0]; done) | rfl), hfin, hWW, rfl⟩
      · have hz' : ¬ (pk : Int) = 16 := by omega
        (refine aw_ops (by kernel_rfl) (fun K hK => ?_); simp (disch := first | omega | (simp only [List.length_set, List.length_append, List.length_cons, List.length_nil, iv_length, zl_length]; try omega; done)) [-getElem?_pos, -getElem?_neg, h0, hgX, cl2, cf2, hz']; refine hK _ _ ?_; clear hK K)
        refine aw_f (by (first | (simp [eval_tmp, put_at]; done) | (simp [eval_tmp, put_at]; omega))) (by kernel_rfl) ?_
        refine aw_skip ?_
        exact ⟨(t.extract k t.size).size, by omega, t.extract k t.size, _, S, R', pk, L, rfl, by (first | (simp [put_at, put_none, fr0_at]; done) | rfl), by (first | (simp [put_at, put_none, fr0_at, h11]; done) | rfl), by (first | (simp [put_at, put_none, fr0_at, h10]; done) | rfl), by (first | (simp [put_at, put_none, fr0_at, h9]; done) | rfl), by (first | (simp [put_at, put_none, fr0_at, h0]; done) | rfl), hpart (by omega), hWW, rfl⟩
    · have hp' : ¬ (0 : Int) < t.size := by omega
      have hp2 : t.size = 0 := by omega
      have hp3 : t = ByteArray.empty := ByteArray.size_eq_zero_iff.1 hp2
      refine aw_f (by (first | (simp [eval_tmp, put_at, hp', hp2, hp3]; done) | (simp [eval_tmp, put_at, hp', hp2, hp3]; omega))) (by kernel_rfl) ?_
      refine aw_exit ?_
      (refine aw_ops (by kernel_rfl) (fun K hK => ?_); simp (disch := first | omega | (simp only [List.length_set, List.length_append, List.length_cons, List.length_nil, iv_length, zl_length]; try omega; done)) [-getElem?_pos, -getElem?_neg, h11]; refine hK _ _ ?_; clear hK K)
      have hn0 : nums t = [] := List.eq_nil_of_length_eq_zero (by rw [nums_len]; omega)
      rw [hn0, List.append_nil] at hW
      exact ⟨q - 1, by omega, i + 1, S, R, p, L, by omega, by (first | (simp [put_at, put_none, fr0_at]; done) | rfl), by (first | (simp [put_at, put_none, fr0_at, h10]; done) | rfl), by (first | (simp [put_at, put_none, fr0_at, h9]; done) | rfl), by (first | (simp [put_at, put_none, fr0_at, h0]; done) | rfl), by rw [← hW]; exact hS, rfl⟩
  · refine aw_f (by (first | (simp [eval_tmp, put_at, hlt]; done) | (simp [eval_tmp, put_at, hlt]; omega))) (by kernel_rfl) ?_
    obtain rfl : i = ps.length := by omega
    refine aw_exit ?_
    simp only [thenQ, inBlockQ, if_true, RQ]
    rw [List.take_length] at hS
    exact ⟨[], .tuple #[], rfl, rfl, S, R, p, L, hS, rfl⟩
end

section
open Go Go.RowKit
set_option linter.unusedVariables false
set_option linter.unusedSimpArgs false
set_option maxRecDepth 100000
set_option maxHeartbeats 2000000

theorem and_split (a b c d : Nat) (ha : a < 256) (hc : c < 256) : (a + 256 * b) &&& (c + 256 * d) = (a &&& c) + 256 * (b &&& d) := by
  have h1 : ((a + 256 * b) &&& (c + 256 * d)) % 2 ^ 8 = a &&& c := by
    rw [Nat.and_mod_two_pow]
    congr 1 <;> omega
  have h2 : ((a + 256 * b) &&& (c + 256 * d)) / 2 ^ 8 = b &&& d := by
    rw [Nat.and_div_two_pow]
    congr 1 <;> omega
  omega
/-- A mask's number. -/
def mv : List Nat → Nat
  | [] => 0
  | m :: l => m + 256 * mv l
def andL : List Int → List Nat → List Int
  | x :: l, m :: ms => ((x.toNat &&& m : Nat) : Int) :: andL l ms
  | _, _ => []
theorem andL_ok : ∀ (l : List Int) (m : List Nat), By l → (∀ x ∈ m, x < 256) → l.length = m.length → (((dv l).toNat &&& mv m : Nat) : Int) = dv (andL l m)
  | [], [], _, _, _ => rfl
  | x :: l, y :: m, hl, hm, h => by
    have hx := hl x (by simp)
    have ih := andL_ok l m hl.tail (fun z hz => hm z (by simp [hz])) (by simpa using h)
    have hd := (dv_bd hl.tail).1
    have e : (dv (x :: l)).toNat = x.toNat + 256 * (dv l).toNat := by simp only [dv]; omega
    rw [e, mv, and_split _ _ _ _ (by omega) (hm y (by simp)), andL, dv, ← ih]
    omega
theorem and_nat (w m : Nat) (hw : w < 18446744073709551616) (hm : m < 18446744073709551616) : bitsOf .and .u64 w m = ((w &&& m : Nat) : Int) := by
  have e2 : ((BitVec.ofInt 64 (w : Int)) &&& (BitVec.ofInt 64 (m : Int))).toNat = w &&& m := by
    rw [BitVec.toNat_and, BitVec.toNat_ofInt, BitVec.toNat_ofInt]
    have a1 : ((w : Int) % ((2 ^ 64 : Nat) : Int)).toNat = w := by omega
    have a2 : ((m : Int) % ((2 ^ 64 : Nat) : Int)).toNat = m := by omega
    rw [a1, a2]
  have e3 : w &&& m ≤ w := Nat.and_le_left
  show IntKind.u64.wrap (((BitVec.ofInt 64 (w : Int)) &&& (BitVec.ofInt 64 (m : Int))).toNat : Int) = _
  rw [e2, wrapU64]
  omega
/-- A byte of r. -/
def clF (i : Nat) (b : Int) : Int := if i = 4 ∨ i = 8 ∨ i = 12 then b - b % 4 else if i % 4 = 3 then b % 16 else b
def clL (k : List Int) : List Int := (List.range 16).map fun i => clF i (k.getD i 0)
theorem n252 {x : Int} (h : 0 ≤ x ∧ x ≤ 255) : ((x.toNat &&& 252 : Nat) : Int) = x - x % 4 := by
  have : ∀ x : Fin 256, x.val &&& 252 = x.val - x.val % 4 := by decide +kernel
  have := this ⟨x.toNat, by omega⟩
  simp only at this
  omega
theorem n15 {x : Int} (h : 0 ≤ x ∧ x ≤ 255) : ((x.toNat &&& 15 : Nat) : Int) = x % 16 := by
  have : ∀ x : Fin 256, x.val &&& 15 = x.val % 16 := by decide +kernel
  have := this ⟨x.toNat, by omega⟩
  simp only at this
  omega
theorem n255 {x : Int} (h : 0 ≤ x ∧ x ≤ 255) : ((x.toNat &&& 255 : Nat) : Int) = x := by
  have : ∀ x : Fin 256, x.val &&& 255 = x.val := by decide +kernel
  have := this ⟨x.toNat, by omega⟩
  simp only at this
  omega
theorem take8 (k : List Int) (i : Nat) (h : i + 8 ≤ k.length) : (k.drop i).take 8 = [k.getD i 0, k.getD (i + 1) 0, k.getD (i + 2) 0, k.getD (i + 3) 0, k.getD (i + 4) 0, k.getD (i + 5) 0, k.getD (i + 6) 0, k.getD (i + 7) 0] := by
  apply List.ext_getElem?
  intro j
  by_cases hj : j < 8
  · rw [List.getElem?_take_of_lt hj, List.getElem?_drop, List.getElem?_eq_getElem (by omega)]
    have e : ∀ (p : Nat) (hp : p < k.length), k.getD p 0 = k[p] := fun p hp => by rw [List.getD_eq_getElem?_getD, List.getElem?_eq_getElem hp]; rfl
    match j, hj with
    | 0, _ => simp only [List.getElem?_cons_zero, Nat.add_zero]; rw [e _ (by omega)]
    | 1, _ => simp only [List.getElem?_cons_succ, List.getElem?_cons_zero]; rw [e _ (by omega)]
    | 2, _ => simp only [List.getElem?_cons_succ, List.getElem?_cons_zero]; rw [e _ (by omega)]
    | 3, _ => simp only [List.getElem?_cons_succ, List.getElem?_cons_zero]; rw [e _ (by omega)]
    | 4, _ => simp only [List.getElem?_cons_succ, List.getElem?_cons_zero]; rw [e _ (by omega)]
    | 5, _ => simp only [List.getElem?_cons_succ, List.getElem?_cons_zero]; rw [e _ (by omega)]
    | 6, _ => simp only [List.getElem?_cons_succ, List.getElem?_cons_zero]; rw [e _ (by omega)]
    | 7, _ => simp only [List.getElem?_cons_succ, List.getElem?_cons_zero]; rw [e _ (by omega)]
  · rw [List.getElem?_eq_none (by rw [List.length_take]; omega), List.getElem?_eq_none (by simp; omega)]
/-- The two masked words are r's bytes. -/
theorem clamp_ok {k : List Int} (hk : k.length = 32) (hb : By k) : ∃ lo hi : Int, bitsOf .and .u64 (dv (k.take 8)) 1152921487695413247 = lo ∧ bitsOf .and .u64 (dv ((k.drop 8).take 8)) 1152921487695413244 = hi ∧ (0 ≤ lo ∧ lo < 18446744073709551616) ∧ (0 ≤ hi ∧ hi < 18446744073709551616) ∧ lo + hi * 18446744073709551616 = dv (clL k) := by
  have g : ∀ i, 0 ≤ k.getD i 0 ∧ k.getD i 0 ≤ 255 := fun i => hb.get i
  have e0 := take8 k 0 (by omega)
  have e8 := take8 k 8 (by omega)
  rw [List.drop_zero] at e0
  simp only [Nat.reduceAdd, Nat.zero_add] at e0 e8
  have b0 := dv_bd (hb.take 8)
  have b8 := dv_bd ((hb.drop 8).take 8)
  rw [List.length_take, hk] at b0
  rw [List.length_take, List.length_drop, hk] at b8
  rw [show (256 : Int) ^ min 8 32 = 18446744073709551616 by decide] at b0
  rw [show (256 : Int) ^ min 8 (32 - 8) = 18446744073709551616 by decide] at b8
  have m0 : (1152921487695413247 : Nat) = mv [255, 255, 255, 15, 252, 255, 255, 15] := by decide
  have m8 : (1152921487695413244 : Nat) = mv [252, 255, 255, 15, 252, 255, 255, 15] := by decide
  have a0 := andL_ok (k.take 8) [255, 255, 255, 15, 252, 255, 255, 15] (hb.take 8) (by decide) (by rw [List.length_take, hk]; rfl)
  have a8 := andL_ok ((k.drop 8).take 8) [252, 255, 255, 15, 252, 255, 255, 15] ((hb.drop 8).take 8) (by decide) (by rw [List.length_take, List.length_drop, hk]; rfl)
  have c0 := and_nat (dv (k.take 8)).toNat 1152921487695413247 (by omega) (by omega)
  have c8 := and_nat (dv ((k.drop 8).take 8)).toNat 1152921487695413244 (by omega) (by omega)
  rw [Int.toNat_of_nonneg b0.1] at c0
  rw [Int.toNat_of_nonneg b8.1] at c8
  have l0 : (dv (k.take 8)).toNat &&& 1152921487695413247 ≤ 1152921487695413247 := Nat.and_le_right
  have l8 : (dv ((k.drop 8).take 8)).toNat &&& 1152921487695413244 ≤ 1152921487695413244 := Nat.and_le_right
  refine ⟨_, _, c0, c8, by omega, by omega, ?_⟩
  rw [m0, a0, m8, a8, e0, e8]
  simp only [andL, n252 (g _), n15 (g _), n255 (g _)]
  have hc : clL k = [k.getD 0 0, k.getD 1 0, k.getD 2 0, k.getD 3 0 % 16, k.getD 4 0 - k.getD 4 0 % 4, k.getD 5 0, k.getD 6 0, k.getD 7 0 % 16, k.getD 8 0 - k.getD 8 0 % 4, k.getD 9 0, k.getD 10 0, k.getD 11 0 % 16, k.getD 12 0 - k.getD 12 0 % 4, k.getD 13 0, k.getD 14 0, k.getD 15 0 % 16] := by
    unfold clL clF
    simp [List.range_succ]
  rw [hc]
  simp only [dv]
  omega
theorem clL_len (k : List Int) : (clL k).length = 16 := by unfold clL; simp
theorem clL_by {k : List Int} (hb : By k) : By (clL k) := by
  intro x hx
  unfold clL clF at hx
  obtain ⟨i, _, rfl⟩ := List.mem_map.1 hx
  have := hb.get i
  split
  · omega
  · split <;> omega
end

section
open Go Go.RowKit
set_option linter.unusedVariables false
set_option linter.unusedSimpArgs false
set_option maxRecDepth 100000
set_option maxHeartbeats 4000000

theorem new_cells (r : List Int) (lo hi : Int) (hr : r.length = 5) : ((setR ([.int .u64 0, .int .u64 0, .int .u64 0, .int .u64 0, .int .u64 0, .int .u64 0, .int .u64 0, .int .u64 0, .int .u64 0, .int .u64 0, .int .u64 0, .int .u64 0, .int .u8 0, .int .u8 0, .int .u8 0, .int .u8 0, .int .u8 0, .int .u8 0, .int .u8 0, .int .u8 0, .int .u8 0, .int .u8 0, .int .u8 0, .int .u8 0, .int .u8 0, .int .u8 0, .int .u8 0, .int .u8 0, .int .i64 0] : List Value) 0 (iv .u64 r)).set 10 (.int .u64 lo)).set 11 (.int .u64 hi) = pcells r (zl 5) lo hi (zl 16) 0 := by
  obtain ⟨a, b, c, d, e, rfl⟩ := five hr
  rfl
theorem pc_plain (r s rs : List Int) (lo hi f : Int) : ∀ x ∈ pcells r s lo hi rs f, plain1 x = true := by
  have hi' : ∀ (k : IntKind) (l : List Int), ∀ x ∈ iv k l, plain1 x = true := fun k l x hx => by
    unfold iv at hx
    obtain ⟨y, _, rfl⟩ := List.mem_map.1 hx
    rfl
  intro x hx
  unfold pcells at hx
  rcases List.mem_append.1 hx with h | h
  · exact hi' _ _ x h
  rcases List.mem_append.1 h with h | h
  · exact hi' _ _ x h
  rcases List.mem_cons.1 h with rfl | h
  · rfl
  rcases List.mem_cons.1 h with rfl | h
  · rfl
  rcases List.mem_append.1 h with h | h
  · exact hi' _ _ x h
  · rw [List.mem_singleton] at h
    subst h; rfl
attribute [local irreducible] pcells dv
attribute [local simp] wb_bool wb_undef XL_nil XL_cons XLc_val XLc_call step1_eq stepW_t stepW_f stepC_n stepC_s stepX_s xop_eq xopR_s xopR_n wantedA_eq wantedG_n wantedG_s plain1_int plain1_bool plain1_string bits_i64 bits_u64 bits_u32 bits_u16 bits_u8 xeqA xarr allK_iv num_iv calleeOf xread xeff xbin xint xnil xun xstr xload xconv xpart xfield xfieldAddr xindexAddr xindex bnd asInt? xslice xlen xmin xmax xbuild xfill xappend xcopy xcells eval_tmp eval_const put_at put_none fr0_at cells_agg cells_int cells_bool cells_string cells_ptr cells_slice notTuple tab iv_all hget_app hget_app0 hget_cons0 hget_cons set_app set_app0 setR setR_one QL_nil QL_cons QLc_val stepQ_t stepQ_f stepQC_n stepQC_s stepQX_s SL_nil SL_cons SLc_val stepS_t stepS_f ltT ltF leT leF eqT eqF ltTn ltFn leTn leFn eqTn eqFn beqT beqF bneT bneF wi64 wu64 wu32 wu16 wu8 tmodP tdivP hgetL hgetNe hgetEq setL nums_def nums_len Nat.succ_le_of_lt List.getElem?_cons_zero List.getElem?_cons_succ Option.getD_some Int.toNat_add Int.toNat_mul agB agI agS agP agL agA okB okI okS okP okSl okA
theorem new_ac {k : List Int} (hk : k.length = 32) (hb : By k) : ∃ r, Nm r ∧ v5 r = dv (clL k) ∧ ∀ (nro : Nat) (γ : Nat → Option Nat) (H : AH), nro ≤ H.length → AC Try.prog nro γ 23 #[.agg (iv .u8 k).toArray] H (fun v' H' => v' = .pointer (some ⟨H.length + 2, 0, none⟩) ∧
    H' = H ++ [some ⟨iv .u8 k, 23, none⟩, some ⟨iv .u64 r, 64, none⟩, some ⟨pcells r (zl 5) (dv ((k.drop 16).take 8)) (dv ((k.drop 24).take 8)) (zl 16) 0, 69, none⟩]) := by
  obtain ⟨lo, hi, ha0, ha8, blo, bhi, hcl⟩ := clamp_ok hk hb
  obtain ⟨r, hmk, hrn, hr5⟩ := make_vc blo bhi (top := 0) (by omega)
  have hrl := hrn.len
  refine ⟨r, hrn, by rw [hr5, ← hcl]; omega, fun nro γ H hn => ?_⟩
  have hsl : ∀ (L : AH) (o : Nat), o ≤ 24 → AC Try.prog (H ++ [some (⟨iv .u8 k, 23, none⟩ : Blk)] ++ L : AH).length γ 35 #[.slice (some ⟨H.length, o, none⟩) (32 - o) (32 - o)] (H ++ [some ⟨iv .u8 k, 23, none⟩] ++ L) (fun v' _ => v' = .int .u64 (dv ((k.drop o).take 8))) := fun L o ho => by
    have hv : SlV (H ++ [some ⟨iv .u8 k, 23, none⟩] ++ L) (.slice (some ⟨H.length, o, none⟩) (32 - o) (32 - o)) (iv .u8 (k.drop o)) := by
      refine .inr ⟨H.length, o, ⟨iv .u8 k, 23, none⟩, ?_, by rw [List.append_assoc, hget_app0]; rfl, fun i x hi => ?_⟩
      · rw [iv_length, List.length_drop, hk]
      · have h1 : i < 32 - o := by
          have := (List.getElem?_eq_some_iff.1 hi).1
          simp [hk] at this
          omega
        show (iv .u8 k)[o + i]? = _
        rw [← hi, iv_getN _ _ _ (by omega), iv_getN _ _ _ (by rw [List.length_drop]; omega)]
        congr 2
        simp [List.getD_eq_getElem?_getD]
    exact word_rc (hb.drop o) hv (by rw [List.length_drop]; omega)
  have w0 := fun L => hsl L 0 (by omega)
  have w8 := fun L => hsl L 8 (by omega)
  have w16 : ∀ (x : Option Blk) (L : AH), AC Try.prog (H ++ [some (⟨iv .u8 k, 23, none⟩ : Blk), x] ++ L : AH).length γ 35 #[.slice (some ⟨H.length, 16, none⟩) 16 16] (H ++ [some ⟨iv .u8 k, 23, none⟩, x] ++ L) (fun v' _ => v' = .int .u64 (dv ((k.drop 16).take 8))) := fun x L => by
    have := hsl (x :: L) 16 (by omega)
    rw [List.append_assoc] at this ⊢
    exact this
  have w24 : ∀ (x : Option Blk) (L : AH), AC Try.prog (H ++ [some (⟨iv .u8 k, 23, none⟩ : Blk), x] ++ L : AH).length γ 35 #[.slice (some ⟨H.length, 24, none⟩) 8 8] (H ++ [some ⟨iv .u8 k, 23, none⟩, x] ++ L) (fun v' _ => v' = .int .u64 (dv ((k.drop 24).take 8))) := fun x L => by
    have := hsl (x :: L) 24 (by omega)
    rw [List.append_assoc] at this ⊢
    exact this
  rw [List.drop_zero] at w0
  simp only [Nat.sub_zero, Nat.reduceSub] at w0 w8
  generalize dv (k.take 8) = d0 at *
  generalize dv ((k.drop 8).take 8) = d8 at *
  have htk : (iv .u8 k).take 32 = iv .u8 k := List.take_of_length_le (by simp [hk])
  have hsr := five_set r hrl
  have htr := five_take r hrl
  refine ac_of_aw Try.func23 rfl Try.ntmps23 Try.results23 (by simp) ?_
  refine aw_seq ?_
  (refine aw_ops (by kernel_rfl) (fun K hK => ?_); simp (disch := first | omega | (simp only [List.length_set, List.length_append, List.length_cons, List.length_nil, iv_length, zl_length]; try omega; done)) [-getElem?_pos, -getElem?_neg]; refine hK _ _ ?_; clear hK K)
  refine aw_seq ?_
  (refine aw_plan [] [] [0, 1, 2, 3, 4, 5, 6, 7] 8 1 (by kernel_rfl) (by kernel_rfl) (by kernel_rfl) (fun K hK => ?_)); simp only [sel, List.getElem?_cons_succ, List.getElem?_cons_zero, List.drop_succ_cons, List.drop_zero]; simp (disch := first | omega | (simp only [List.length_set, List.length_append, List.length_cons, List.length_nil, iv_length, zl_length]; try omega; done)) [-getElem?_pos, -getElem?_neg, hk, htk, PL_nil, PL_cons, PLc_val, PLc_new, stepP_t, stepP_f, stepPC_n, stepPC_s, stepPX_s, stepPX_n, stepPA_t, stepPA_c, stepPA_l, stepPN_s, allocOp, reloc_sl, reloc_ptr, List.map_cons, List.map_nil, List.nil_append, List.append_assoc, List.cons_append, Nat.add_assoc]
  refine PLc_call (by kernel_rfl) (fun L2 hL => w0 L2) (by simp [pv_iv, pv_int, pv_bool, pv_string, pv_tup2, pv_tup3, iv_plain, p2_int, p2_bool, p2_string]) ?_
  try simp (disch := first | omega | (simp only [List.length_set, List.length_append, List.length_cons, List.length_nil, iv_length, zl_length]; try omega; done)) [-getElem?_pos, -getElem?_neg, hk, htk, ha0, PL_nil, PL_cons, PLc_val, PLc_new, stepP_t, stepP_f, stepPC_n, stepPC_s, stepPX_s, stepPX_n, stepPA_t, stepPA_c, stepPA_l, stepPN_s, allocOp, reloc_sl, reloc_ptr, List.map_cons, List.map_nil, List.nil_append, List.append_assoc, List.cons_append, Nat.add_assoc]
  refine PLc_call (by kernel_rfl) (fun L2 hL => w8 L2) (by simp [pv_iv, pv_int, pv_bool, pv_string, pv_tup2, pv_tup3, iv_plain, p2_int, p2_bool, p2_string]) ?_
  try simp (disch := first | omega | (simp only [List.length_set, List.length_append, List.length_cons, List.length_nil, iv_length, zl_length]; try omega; done)) [-getElem?_pos, -getElem?_neg, hk, htk, ha8, PL_nil, PL_cons, PLc_val, PLc_new, stepP_t, stepP_f, stepPC_n, stepPC_s, stepPX_s, stepPX_n, stepPA_t, stepPA_c, stepPA_l, stepPN_s, allocOp, reloc_sl, reloc_ptr, List.map_cons, List.map_nil, List.nil_append, List.append_assoc, List.cons_append, Nat.add_assoc]
  refine PLc_call (by kernel_rfl) (fun L2 hL => ac_of_vc (by simp [pv_iv, pv_int, pv_bool, pv_string, pv_tup2, pv_tup3, iv_plain, p2_int, p2_bool, p2_string]) hmk rfl) (by simp [pv_iv, pv_int, pv_bool, pv_string, pv_tup2, pv_tup3, iv_plain, p2_int, p2_bool, p2_string]) ?_
  try simp (disch := first | omega | (simp only [List.length_set, List.length_append, List.length_cons, List.length_nil, iv_length, zl_length]; try omega; done)) [-getElem?_pos, -getElem?_neg, hk, htk, hrl, hsr, PL_nil, PL_cons, PLc_val, PLc_new, stepP_t, stepP_f, stepPC_n, stepPC_s, stepPX_s, stepPX_n, stepPA_t, stepPA_c, stepPA_l, stepPN_s, allocOp, reloc_sl, reloc_ptr, List.map_cons, List.map_nil, List.nil_append, List.append_assoc, List.cons_append, Nat.add_assoc]
  refine hK _ _ ?_; clear hK K
  clear w0 w8 hsl
  generalize dv ((k.drop 16).take 8) = d16 at *
  generalize dv ((k.drop 24).take 8) = d24 at *
  refine aw_seq ?_
  (refine aw_plan [] [] [0, 1, 2, 3, 4, 5, 6] 7 1 (by kernel_rfl) (by kernel_rfl) (by kernel_rfl) (fun K hK => ?_)); simp only [sel, List.getElem?_cons_succ, List.getElem?_cons_zero, List.drop_succ_cons, List.drop_zero]; simp (disch := first | omega | (simp only [List.length_set, List.length_append, List.length_cons, List.length_nil, iv_length, zl_length]; try omega; done)) [-getElem?_pos, -getElem?_neg, hk, htk, hrl, htr, PL_nil, PL_cons, PLc_val, PLc_new, stepP_t, stepP_f, stepPC_n, stepPC_s, stepPX_s, stepPX_n, stepPA_t, stepPA_c, stepPA_l, stepPN_s, allocOp, reloc_sl, reloc_ptr, List.map_cons, List.map_nil, List.nil_append, List.append_assoc, List.cons_append, Nat.add_assoc]
  refine PLc_call (by kernel_rfl) (fun L2 hL => w16 _ L2) (by simp [pv_iv, pv_int, pv_bool, pv_string, pv_tup2, pv_tup3, iv_plain, p2_int, p2_bool, p2_string]) ?_
  try simp (disch := first | omega | (simp only [List.length_set, List.length_append, List.length_cons, List.length_nil, iv_length, zl_length]; try omega; done)) [-getElem?_pos, -getElem?_neg, hk, htk, hrl, htr, PL_nil, PL_cons, PLc_val, PLc_new, stepP_t, stepP_f, stepPC_n, stepPC_s, stepPX_s, stepPX_n, stepPA_t, stepPA_c, stepPA_l, stepPN_s, allocOp, reloc_sl, reloc_ptr, List.map_cons, List.map_nil, List.nil_append, List.append_assoc, List.cons_append, Nat.add_assoc]
  refine PLc_call (by kernel_rfl) (fun L2 hL => w24 _ L2) (by simp [pv_iv, pv_int, pv_bool, pv_string, pv_tup2, pv_tup3, iv_plain, p2_int, p2_bool, p2_string]) ?_
  try simp (disch := first | omega | (simp only [List.length_set, List.length_append, List.length_cons, List.length_nil, iv_length, zl_length]; try omega; done)) [-getElem?_pos, -getElem?_neg, hk, htk, hrl, htr, PL_nil, PL_cons, PLc_val, PLc_new, stepP_t, stepP_f, stepPC_n, stepPC_s, stepPX_s, stepPX_n, stepPA_t, stepPA_c, stepPA_l, stepPN_s, allocOp, reloc_sl, reloc_ptr, List.map_cons, List.map_nil, List.nil_append, List.append_assoc, List.cons_append, Nat.add_assoc]
  rw [new_cells _ _ _ hrl]
  refine ⟨pc_plain _ _ _ _ _ _, hK _ _ ?_⟩; clear hK K
  (refine aw_ret ?_; simp (disch := first | omega | (simp only [List.length_set, List.length_append, List.length_cons, List.length_nil, iv_length, zl_length]; try omega; done)) [-getElem?_pos, -getElem?_neg, thenQ_ret, inBlockQ_ret, RQ, resL, resV])
end
end Go.Proofs.Ytjfjakighnibpaa
