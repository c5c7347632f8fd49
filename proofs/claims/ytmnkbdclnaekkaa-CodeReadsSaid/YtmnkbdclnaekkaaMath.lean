/-
  Numbers in one base turned into another one, digit by digit: plain numbers and lists.
-/
import Derived.Test.YtmnkbdclnaekkaaRW
namespace Go.Proofs.Ytmnkbdclnaekkaa
open Go Go.RowKit
set_option maxRecDepth 100000
set_option linter.unusedVariables false

/-- A number's digits times M and c more, the lowest digit at place L - 1. -/
def gin (B M : Int) (L : Nat) (l : List Int) (c : Int) : Nat → List Int × Int
  | 0 => (l, c)
  | j + 1 => ((gin B M L l c j).1.set (L - 1 - j) (((gin B M L l c j).1.getD (L - 1 - j) 0 * M + (gin B M L l c j).2) % B), ((gin B M L l c j).1.getD (L - 1 - j) 0 * M + (gin B M L l c j).2) / B)
def low (B : Int) (L : Nat) (l : List Int) : Nat → Int
  | 0 => 0
  | j + 1 => l.getD (L - 1 - j) 0 * B ^ j + low B L l j
def pref (M : Int) (l : List Int) : Nat → Int
  | 0 => 0
  | i + 1 => pref M l i * M + l.getD i 0
theorem getD_set (l : List Int) (i j : Nat) (x : Int) (h : i < l.length) : (l.set i x).getD j 0 = if i = j then x else l.getD j 0 := by
  simp only [List.getD_eq_getElem?_getD, List.getElem?_set]
  by_cases e : i = j
  · subst e; simp [h]
  · simp [e]
theorem low_congr (B : Int) (L : Nat) (l m : List Int) : ∀ j, j ≤ L → (∀ p, L - j ≤ p → p < L → l.getD p 0 = m.getD p 0) → low B L l j = low B L m j
  | 0, _, _ => rfl
  | j + 1, hj, h => by
    simp only [low]
    rw [h (L - 1 - j) (by omega) (by omega), low_congr B L l m j (by omega) (fun p h1 h2 => h p (by omega) h2)]
theorem gin_spec (B M : Int) (hB : 0 < B) (L : Nat) (l : List Int) (hl : L ≤ l.length) (c : Int) : ∀ j, j ≤ L →
    (gin B M L l c j).1.length = l.length ∧ (∀ p, p < L - j ∨ L ≤ p → (gin B M L l c j).1.getD p 0 = l.getD p 0) ∧ (∀ p, L - j ≤ p → p < L → 0 ≤ (gin B M L l c j).1.getD p 0 ∧ (gin B M L l c j).1.getD p 0 < B) ∧
    low B L (gin B M L l c j).1 j + (gin B M L l c j).2 * B ^ j = M * low B L l j + c
  | 0, _ => ⟨rfl, fun _ _ => rfl, fun p h1 h2 => by omega, by simp [gin, low]⟩
  | j + 1, hj => by
    obtain ⟨h1, h2, h3, h4⟩ := gin_spec B M hB L l hl c j (by omega)
    have hlen : L - 1 - j < (gin B M L l c j).1.length := by omega
    have hq := h2 (L - 1 - j) (by omega)
    simp only [gin]
    generalize (gin B M L l c j).1 = d at *
    generalize (gin B M L l c j).2 = q at *
    generalize hn : d.getD (L - 1 - j) 0 * M + q = n at *
    refine ⟨by rw [List.length_set, h1], fun p hp => ?_, fun p hp1 hp2 => ?_, ?_⟩
    · rw [getD_set _ _ _ _ hlen, if_neg (by omega)]
      exact h2 p (by omega)
    · rw [getD_set _ _ _ _ hlen]
      split
      · exact ⟨Int.emod_nonneg _ (by omega), Int.emod_lt_of_pos _ hB⟩
      · exact h3 p (by omega) hp2
    · simp only [low]
      rw [getD_set _ _ _ _ hlen, if_pos rfl, low_congr B L (d.set (L - 1 - j) (n % B)) d j (by omega) (fun p hp1 hp2 => by rw [getD_set _ _ _ _ hlen, if_neg (by omega)])]
      have e1 : n % B * B ^ j + n / B * B ^ (j + 1) = n * B ^ j := by
        have h := Int.emod_add_mul_ediv n B
        have e2 : n / B * B ^ (j + 1) = B * (n / B) * B ^ j := by rw [Int.pow_succ, Int.mul_comm B (n / B), Int.mul_assoc, Int.mul_comm B (B ^ j)]
        rw [e2, ← Int.add_mul, h]
      rw [hq] at hn
      have e3 : n * B ^ j = l.getD (L - 1 - j) 0 * M * B ^ j + q * B ^ j := by rw [← hn, Int.add_mul]
      have e4 : M * (l.getD (L - 1 - j) 0 * B ^ j + low B L l j) = l.getD (L - 1 - j) 0 * M * B ^ j + M * low B L l j := by
        rw [Int.mul_add, ← Int.mul_assoc, Int.mul_comm M (l.getD (L - 1 - j) 0)]
      rw [e4]
      generalize l.getD (L - 1 - j) 0 * M * B ^ j = u at *
      generalize q * B ^ j = v at *
      generalize n % B * B ^ j = x at *
      generalize n / B * B ^ (j + 1) = y at *
      omega
theorem low_bd (B : Int) (hB : 0 < B) (L : Nat) (l : List Int) : ∀ j, j ≤ L → (∀ p, p < L → 0 ≤ l.getD p 0 ∧ l.getD p 0 < B) → 0 ≤ low B L l j ∧ low B L l j < B ^ j
  | 0, _, _ => by simp [low]
  | j + 1, hj, h => by
    obtain ⟨h1, h2⟩ := low_bd B hB L l j (by omega) h
    obtain ⟨h3, h4⟩ := h (L - 1 - j) (by omega)
    have hp : 0 < B ^ j := Int.pow_pos hB
    simp only [low]
    have e1 : 0 ≤ l.getD (L - 1 - j) 0 * B ^ j := Int.mul_nonneg h3 (by omega)
    have e2 : (l.getD (L - 1 - j) 0 + 1) * B ^ j ≤ B * B ^ j := Int.mul_le_mul_of_nonneg_right (by omega) (by omega)
    rw [Int.add_mul, Int.one_mul] at e2
    rw [Int.pow_succ, Int.mul_comm]
    have e3 : B ^ j * l.getD (L - 1 - j) 0 = l.getD (L - 1 - j) 0 * B ^ j := Int.mul_comm _ _
    have e4 : B ^ j * B = B * B ^ j := Int.mul_comm _ _
    omega
theorem low_inj (B : Int) (hB : 0 < B) (L : Nat) (l m : List Int) (hl : ∀ p, p < L → 0 ≤ l.getD p 0 ∧ l.getD p 0 < B) (hm : ∀ p, p < L → 0 ≤ m.getD p 0 ∧ m.getD p 0 < B) :
    ∀ j, j ≤ L → low B L l j = low B L m j → ∀ p, L - j ≤ p → p < L → l.getD p 0 = m.getD p 0
  | 0, _, _, p, h1, h2 => by omega
  | j + 1, hj, h, p, h1, h2 => by
    obtain ⟨a1, a2⟩ := low_bd B hB L l j (by omega) hl
    obtain ⟨b1, b2⟩ := low_bd B hB L m j (by omega) hm
    have hp : 0 < B ^ j := Int.pow_pos hB
    simp only [low] at h
    have key : ∀ (x y u v P : Int), 0 < P → 0 ≤ u → u < P → 0 ≤ v → v < P → x * P + u = y * P + v → x = y := by
      intro x y u v P hP h1 h2 h3 h4 he
      have e1 : (x * P + u) / P = x := by rw [Int.add_comm, Int.add_mul_ediv_right _ _ (by omega), Int.ediv_eq_zero_of_lt h1 h2, Int.zero_add]
      have e2 : (y * P + v) / P = y := by rw [Int.add_comm, Int.add_mul_ediv_right _ _ (by omega), Int.ediv_eq_zero_of_lt h3 h4, Int.zero_add]
      rw [← e1, ← e2, he]
    have hx := key _ _ _ _ _ hp a1 a2 b1 b2 h
    by_cases e : p = L - 1 - j
    · subst e; exact hx
    · rw [hx] at h
      exact low_inj B hB L l m hl hm j (by omega) (by omega) p (by omega) h2
theorem low_pref (B : Int) (L : Nat) (l : List Int) : ∀ n, n ≤ L → low B L l L = pref B l n * B ^ (L - n) + low B L l (L - n)
  | 0, _ => by simp [pref]
  | n + 1, hn => by
    rw [low_pref B L l n (by omega)]
    obtain ⟨q, hq⟩ : ∃ q, L - n = q + 1 := ⟨L - n - 1, by omega⟩
    rw [hq, show L - (n + 1) = q by omega]
    simp only [low, pref]
    rw [show L - 1 - q = n by omega, Int.add_mul, Int.pow_succ]
    have : pref B l n * (B ^ q * B) = pref B l n * B * B ^ q := by rw [Int.mul_assoc, Int.mul_comm B]
    omega
theorem low_all (B : Int) (L : Nat) (l : List Int) : low B L l L = pref B l L := by
  have := low_pref B L l L (Nat.le_refl _)
  rw [this, Nat.sub_self]
  simp [low]
theorem low_zl (B : Int) (L n : Nat) : ∀ j, low B L (zl n) j = 0
  | 0 => rfl
  | j + 1 => by rw [low, zl_get, low_zl B L n j]; simp
def gout (B M : Int) (L n : Nat) (ds : List Int) : Nat → List Int
  | 0 => zl n
  | i + 1 => (gin B M L (gout B M L n ds i) (ds.getD i 0) L).1
theorem gout_spec (B M : Int) (hB : 0 < B) (L n : Nat) (hn : L ≤ n) (ds : List Int) : ∀ i, (gout B M L n ds i).length = n ∧ (∀ p, L ≤ p → (gout B M L n ds i).getD p 0 = 0) ∧ (∀ p, p < L → 0 ≤ (gout B M L n ds i).getD p 0 ∧ (gout B M L n ds i).getD p 0 < B)
  | 0 => ⟨by simp [gout], fun p _ => zl_get _ _, fun p _ => by show 0 ≤ (zl n).getD p 0 ∧ (zl n).getD p 0 < B; rw [zl_get]; omega⟩
  | i + 1 => by
    obtain ⟨h1, h2, _⟩ := gout_spec B M hB L n hn ds i
    obtain ⟨a1, a2, a3, _⟩ := gin_spec B M hB L (gout B M L n ds i) (by omega) (ds.getD i 0) L (Nat.le_refl _)
    exact ⟨by rw [gout, a1, h1], fun p hp => by rw [gout, a2 p (.inr hp), h2 p hp], fun p hp => a3 p (by omega) hp⟩
/-- As long as nothing is carried out, the digits are the number's. -/
theorem gout_val (B M : Int) (hB : 0 < B) (L n : Nat) (hn : L ≤ n) (ds : List Int) : ∀ i, (∀ i', i' < i → (gin B M L (gout B M L n ds i') (ds.getD i' 0) L).2 = 0) → low B L (gout B M L n ds i) L = pref M ds i
  | 0, _ => low_zl _ _ _ _
  | i + 1, h => by
    obtain ⟨h1, _, _⟩ := gout_spec B M hB L n hn ds i
    obtain ⟨_, _, _, a4⟩ := gin_spec B M hB L (gout B M L n ds i) (by omega) (ds.getD i 0) L (Nat.le_refl _)
    rw [h i (by omega), gout_val B M hB L n hn ds i (fun i' hi' => h i' (by omega)), Int.zero_mul, Int.add_zero] at a4
    rw [gout, a4, pref, Int.mul_comm]
/-- Nothing is carried out of what is small. -/
theorem gout_fits (B M : Int) (hB : 0 < B) (L n : Nat) (hn : L ≤ n) (ds : List Int) (N : Nat) (hs : ∀ i, i ≤ N → 0 ≤ pref M ds i ∧ pref M ds i < B ^ L) : ∀ i, i < N → (gin B M L (gout B M L n ds i) (ds.getD i 0) L).2 = 0 := by
  intro i
  induction i using Nat.strongRecOn with
  | _ i ih =>
    intro hi
    obtain ⟨h1, _, _⟩ := gout_spec B M hB L n hn ds i
    obtain ⟨a1, _, a3, a4⟩ := gin_spec B M hB L (gout B M L n ds i) (by omega) (ds.getD i 0) L (Nat.le_refl _)
    rw [gout_val B M hB L n hn ds i (fun i' hi' => ih i' hi' (by omega))] at a4
    have hb := low_bd B hB L (gin B M L (gout B M L n ds i) (ds.getD i 0) L).1 L (Nat.le_refl _) (fun p hp => a3 p (by omega) hp)
    have hp := hs (i + 1) (by omega)
    rw [pref, Int.mul_comm, ← a4] at hp
    have hpw : 0 < B ^ L := Int.pow_pos hB
    generalize low B L (gin B M L (gout B M L n ds i) (ds.getD i 0) L).1 L = u at *
    generalize (gin B M L (gout B M L n ds i) (ds.getD i 0) L).2 = c at *
    generalize B ^ L = P at *
    rcases Int.lt_trichotomy c 0 with h | h | h
    · have : c * P ≤ -1 * P := Int.mul_le_mul_of_nonneg_right (by omega) (by omega)
      omega
    · exact h
    · have : 1 * P ≤ c * P := Int.mul_le_mul_of_nonneg_right (by omega) (by omega)
      omega
theorem pref_mono (M : Int) (hM : 1 ≤ M) (l : List Int) (h : ∀ p, 0 ≤ l.getD p 0) : ∀ n i, i ≤ n → 0 ≤ pref M l i ∧ pref M l i ≤ pref M l n := by
  have pos : ∀ i, 0 ≤ pref M l i := by
    intro i
    induction i with
    | zero => simp [pref]
    | succ i ih => simp only [pref]; have := h i; have := Int.mul_nonneg ih (by omega : 0 ≤ M); omega
  intro n
  induction n with
  | zero => intro i hi; (obtain rfl : i = 0 := by omega); exact ⟨pos 0, Int.le_refl _⟩
  | succ n ih =>
    intro i hi
    refine ⟨pos i, ?_⟩
    by_cases e : i = n + 1
    · subst e; exact Int.le_refl _
    · have h1 := (ih i (by omega)).2
      have h2 : pref M l n * 1 ≤ pref M l n * M := Int.mul_le_mul_of_nonneg_left hM (pos n)
      have h3 := h n
      simp only [pref]
      omega
theorem pref_congr (M : Int) (l m : List Int) : ∀ n, (∀ p, p < n → l.getD p 0 = m.getD p 0) → pref M l n = pref M m n
  | 0, _ => rfl
  | n + 1, h => by simp only [pref]; rw [pref_congr M l m n (fun p hp => h p (by omega)), h n (by omega)]
end Go.Proofs.Ytmnkbdclnaekkaa
