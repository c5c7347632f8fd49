/-
  Numbers as digits of 8 bits, the lowest first: what the reference reckons with. Over any program.
  Slices as arguments: what is found in them, whatever was added since; what is answered, as a new row. Over any program.
  The reference's sum of digits.
  The reference's product of digits.
-/
import Derived.Test.YtnddofgabipknaaDoorLibC
import Derived.Test.YtnddofgabipknaaDoorTabm
namespace Go.Proofs.YtnddofgabipknaaDoor
section
open Go Go.RowKit
set_option linter.unusedVariables false
set_option linter.unusedSimpArgs false

def dv : List Int → Int
  | [] => 0
  | d :: l => d + 256 * dv l
theorem q256 (i : Nat) : (256 : Int) ^ (i + 1) = 256 ^ i * 256 := Int.pow_succ _ _
theorem q256_pos (i : Nat) : (0 : Int) < 256 ^ i := Int.pow_pos (by omega)
theorem dv_append : ∀ (l r : List Int), dv (l ++ r) = dv l + 256 ^ l.length * dv r
  | [], r => by simp [dv]
  | d :: l, r => by
    show d + 256 * dv (l ++ r) = d + 256 * dv l + 256 ^ (l.length + 1) * dv r
    rw [dv_append l r, q256, Int.mul_add, Int.mul_comm (256 ^ l.length) 256, Int.mul_assoc, Int.add_assoc]
theorem By.tail {d : Int} {l : List Int} (h : By (d :: l)) : By l := fun x hx => h x (by simp [hx])
theorem By.take {l : List Int} (h : By l) (i : Nat) : By (l.take i) := fun x hx => h x (List.mem_of_mem_take hx)
theorem By.drop {l : List Int} (h : By l) (i : Nat) : By (l.drop i) := fun x hx => h x (List.mem_of_mem_drop hx)
theorem By.set {l : List Int} (h : By l) {i : Nat} {x : Int} (hx : 0 ≤ x ∧ x ≤ 255) : By (l.set i x) := fun y hy => by
  rcases List.mem_or_eq_of_mem_set hy with h1 | h1
  · exact h y h1
  · rw [h1]; exact hx
theorem dv_bd : ∀ {l : List Int}, By l → 0 ≤ dv l ∧ dv l < 256 ^ l.length
  | [], _ => by simp [dv]
  | d :: l, h => by
    have h1 := dv_bd h.tail
    have h2 := h d (by simp)
    have e := q256 l.length
    show 0 ≤ d + 256 * dv l ∧ d + 256 * dv l < 256 ^ (l.length + 1)
    generalize (256 : Int) ^ l.length = s at *
    generalize (256 : Int) ^ (l.length + 1) = t at *
    omega
theorem dv_take_succ (l : List Int) (i : Nat) : dv (l.take (i + 1)) = dv (l.take i) + 256 ^ i * l.getD i 0 := by
  rcases Nat.lt_or_ge i l.length with h | h
  · rw [List.take_add_one, List.getElem?_eq_getElem h, Option.toList_some, dv_append, List.length_take, Nat.min_eq_left (by omega), List.getD_eq_getElem?_getD, List.getElem?_eq_getElem h]
    simp [dv]
  · rw [List.take_of_length_le (by omega), List.take_of_length_le h, List.getD_eq_getElem?_getD, List.getElem?_eq_none h]
    simp
theorem dv_split {l : List Int} {i : Nat} (h : i ≤ l.length) : dv l = dv (l.take i) + 256 ^ i * dv (l.drop i) := by
  have h1 := dv_append (l.take i) (l.drop i)
  rw [List.take_append_drop, List.length_take, Nat.min_eq_left h] at h1
  exact h1
theorem dv_drop {l : List Int} {i : Nat} (h : i < l.length) : dv (l.drop i) = l.getD i 0 + 256 * dv (l.drop (i + 1)) := by
  rw [List.drop_eq_getElem_cons h, List.getD_eq_getElem?_getD, List.getElem?_eq_getElem h]; rfl
theorem pow_le' {i j : Nat} (h : i ≤ j) : (256 : Int) ^ i ≤ 256 ^ j := by
  obtain ⟨k, rfl⟩ := Nat.exists_eq_add_of_le h
  rw [Int.pow_add]
  have h1 := q256_pos i
  have h2 := q256_pos k
  have : 256 ^ i * 1 ≤ (256 : Int) ^ i * 256 ^ k := Int.mul_le_mul_of_nonneg_left (by omega) (by omega)
  omega
theorem dv_get {l : List Int} (hb : By l) (i : Nat) : l.getD i 0 = dv l / 256 ^ i % 256 := by
  have hp := q256_pos i
  rcases Nat.lt_or_ge i l.length with h | h
  · have h1 := dv_bd (hb.take i)
    rw [List.length_take, Nat.min_eq_left (by omega)] at h1
    rw [dv_split (show i ≤ l.length by omega), Int.add_mul_ediv_left _ _ (by omega), Int.ediv_eq_zero_of_lt h1.1 h1.2, Int.zero_add, dv_drop h]
    have := hb.get i
    omega
  · have h1 := dv_bd hb
    have h2 := pow_le' h
    rw [List.getD_eq_getElem?_getD, List.getElem?_eq_none h, Int.ediv_eq_zero_of_lt h1.1 (by omega)]
    rfl
theorem dv_set {l : List Int} {i : Nat} (x : Int) (h : i < l.length) : dv (l.set i x) = dv l + (x - l.getD i 0) * 256 ^ i := by
  induction l generalizing i with
  | nil => simp at h
  | cons d l ih =>
    cases i with
    | zero => simp [dv]; omega
    | succ i =>
      have h1 := ih (i := i) (by simpa using h)
      show d + 256 * dv (l.set i x) = d + 256 * dv l + (x - l.getD i 0) * 256 ^ (i + 1)
      rw [h1, q256, Int.mul_add, ← Int.add_assoc]
      congr 1
      rw [Int.mul_comm 256, Int.mul_assoc]
theorem dv_zl (n : Nat) : dv (zl n) = 0 := by
  induction n with
  | zero => rfl
  | succ n ih => unfold zl at *; rw [List.replicate_succ]; simp [dv, ih]
theorem zl_by (n : Nat) : By (zl n) := fun x hx => by unfold zl at hx; rw [List.mem_replicate] at hx; omega
/-! ### a sum -/
def pcar (a b : List Int) : Nat → Int
  | 0 => 0
  | i + 1 => (pcar a b i + a.getD i 0 + b.getD i 0) / 256
def pout (a b : List Int) : Nat → List Int
  | 0 => []
  | i + 1 => pout a b i ++ [(pcar a b i + a.getD i 0 + b.getD i 0) % 256]
def plusN (a b : List Int) : Nat := if pcar a b (max a.length b.length) = 0 then max a.length b.length else max a.length b.length + 1
def plusL (a b : List Int) : List Int := pout a b (plusN a b)
theorem pout_len (a b : List Int) : ∀ i, (pout a b i).length = i
  | 0 => rfl
  | i + 1 => by simp [pout, pout_len a b i]
theorem pcar_bd {a b : List Int} (ha : By a) (hb : By b) : ∀ i, 0 ≤ pcar a b i ∧ pcar a b i ≤ 1
  | 0 => by simp [pcar]
  | i + 1 => by
    have h1 := pcar_bd ha hb i
    have h2 := ha.get i
    have h3 := hb.get i
    simp only [pcar]
    omega
theorem pout_by (a b : List Int) : ∀ i, By (pout a b i)
  | 0 => By.nil
  | i + 1 => (pout_by a b i).app (By.cons (by omega) By.nil)
theorem pout_dv (a b : List Int) : ∀ i, dv (pout a b i) + 256 ^ i * pcar a b i = dv (a.take i) + dv (b.take i)
  | 0 => by simp [pout, pcar, dv]
  | i + 1 => by
    have h1 := pout_dv a b i
    rw [dv_take_succ, dv_take_succ]
    simp only [pout, pcar]
    rw [dv_append, pout_len, q256]
    simp only [dv]
    generalize hs : pcar a b i + a.getD i 0 + b.getD i 0 = x at *
    have h2 : 256 ^ i * (x % 256) + 256 ^ i * 256 * (x / 256) = 256 ^ i * x := by
      rw [Int.mul_assoc, ← Int.mul_add]
      congr 1
      omega
    have h3 : 256 ^ i * x = 256 ^ i * pcar a b i + 256 ^ i * a.getD i 0 + 256 ^ i * b.getD i 0 := by rw [← hs, Int.mul_add, Int.mul_add]
    simp only [Int.mul_zero, Int.add_zero]
    omega
theorem plusN_le (a b : List Int) : max a.length b.length ≤ plusN a b ∧ plusN a b ≤ max a.length b.length + 1 := by unfold plusN; split <;> omega
theorem pcar_end {a b : List Int} (ha : By a) (hb : By b) : pcar a b (plusN a b) = 0 := by
  unfold plusN
  split
  · assumption
  · have h1 := pcar_bd ha hb (max a.length b.length)
    simp only [pcar]
    rw [List.getD_eq_getElem?_getD, List.getElem?_eq_none (by omega), List.getD_eq_getElem?_getD, List.getElem?_eq_none (by omega)]
    simp
    omega
theorem plusL_len (a b : List Int) : (plusL a b).length = plusN a b := pout_len a b _
theorem plusL_by (a b : List Int) : By (plusL a b) := pout_by a b _
theorem plusL_dv {a b : List Int} (ha : By a) (hb : By b) : dv (plusL a b) = dv a + dv b := by
  have h := pout_dv a b (plusN a b)
  have h1 := plusN_le a b
  rw [pcar_end ha hb, List.take_of_length_le (by omega), List.take_of_length_le (by omega), Int.mul_zero, Int.add_zero] at h
  exact h
/-- The loop goes on. -/
theorem plus_on {a b : List Int} (ha : By a) (hb : By b) {i : Nat} (h : i ≤ plusN a b) : (i < plusN a b ↔ i < a.length ∨ i < b.length ∨ 0 < pcar a b i) := by
  have h1 := plusN_le a b
  have h2 := pcar_bd ha hb i
  constructor
  · intro hlt
    by_cases hM : i < max a.length b.length
    · omega
    · obtain rfl : i = max a.length b.length := by omega
      right; right
      unfold plusN at hlt
      split at hlt
      · omega
      · omega
  · intro hc
    rcases Nat.lt_or_ge i (plusN a b) with h3 | h3
    · exact h3
    · obtain rfl : i = plusN a b := by omega
      have := pcar_end ha hb
      omega
/-! ### a product -/
def rowT (out : List Int) (ai : Int) (b : List Int) (i : Nat) : Nat → List Int × Int
  | 0 => (out, 0)
  | k + 1 => ((rowT out ai b i k).1.set (i + k) (((rowT out ai b i k).1.getD (i + k) 0 + (rowT out ai b i k).2 + ai * b.getD k 0) % 256), ((rowT out ai b i k).1.getD (i + k) 0 + (rowT out ai b i k).2 + ai * b.getD k 0) / 256)
def rowN (out : List Int) (ai : Int) (b : List Int) (i : Nat) : Nat := if (rowT out ai b i b.length).2 = 0 then b.length else b.length + 1
def rowL (out : List Int) (ai : Int) (b : List Int) (i : Nat) : List Int := (rowT out ai b i (rowN out ai b i)).1
section
variable {out b : List Int} {ai : Int} {i : Nat}
theorem rowT_len : ∀ k, (rowT out ai b i k).1.length = out.length
  | 0 => rfl
  | k + 1 => by simp [rowT, rowT_len k]
theorem mul_bd (hai : 0 ≤ ai ∧ ai ≤ 255) (hb : By b) (k : Nat) : 0 ≤ ai * b.getD k 0 ∧ ai * b.getD k 0 ≤ 65025 := by
  have h := hb.get k
  have h1 : ai * b.getD k 0 ≤ 255 * b.getD k 0 := Int.mul_le_mul_of_nonneg_right hai.2 h.1
  have h2 : 0 ≤ ai * b.getD k 0 := Int.mul_nonneg hai.1 h.1
  omega
theorem rowT_bd (ho : By out) (hai : 0 ≤ ai ∧ ai ≤ 255) (hb : By b) : ∀ k, By (rowT out ai b i k).1 ∧ 0 ≤ (rowT out ai b i k).2 ∧ (rowT out ai b i k).2 ≤ 255
  | 0 => ⟨ho, by simp [rowT], by simp [rowT]⟩
  | k + 1 => by
    obtain ⟨h1, h2, h3⟩ := rowT_bd ho hai hb k
    have h4 := mul_bd hai hb k
    have h5 := h1.get (i + k)
    simp only [rowT]
    exact ⟨h1.set (by omega), by omega, by omega⟩
theorem rowT_dv : ∀ k, i + k ≤ out.length → dv (rowT out ai b i k).1 + 256 ^ (i + k) * (rowT out ai b i k).2 = dv out + ai * 256 ^ i * dv (b.take k)
  | 0, _ => by simp [rowT, dv]
  | k + 1, h => by
    have h1 := rowT_dv k (by omega)
    have hl := @rowT_len out b ai i k
    simp only [rowT]
    rw [dv_set _ (by omega), dv_take_succ, ← Nat.add_assoc, q256]
    generalize (rowT out ai b i k).1.getD (i + k) 0 = d at *
    generalize (rowT out ai b i k).2 = c at *
    generalize dv (rowT out ai b i k).1 = V at *
    generalize b.getD k 0 = bk at *
    generalize hx : d + c + ai * bk = x at *
    have e1 : (x % 256 - d) * 256 ^ (i + k) + 256 ^ (i + k) * 256 * (x / 256) = 256 ^ (i + k) * (x - d) := by
      rw [Int.mul_comm (x % 256 - d), Int.mul_assoc, ← Int.mul_add]
      congr 1
      omega
    have e2 : 256 ^ (i + k) * (x - d) = 256 ^ (i + k) * c + ai * 256 ^ i * (256 ^ k * bk) := by
      rw [show x - d = c + ai * bk by omega, Int.mul_add, Int.pow_add]
      congr 1
      ac_rfl
    rw [Int.mul_add]
    omega
theorem rowN_le : b.length ≤ rowN out ai b i ∧ rowN out ai b i ≤ b.length + 1 := by unfold rowN; split <;> omega
theorem row_end (ho : By out) (hai : 0 ≤ ai ∧ ai ≤ 255) (hb : By b) (hl : i + b.length < out.length) (hv : dv out < 256 ^ (i + b.length)) : (rowT out ai b i (rowN out ai b i)).2 = 0 := by
  unfold rowN
  split
  · assumption
  · have h1 := @rowT_dv out b ai i b.length (by omega)
    obtain ⟨k1, k2, k3⟩ := @rowT_bd out b ai i ho hai hb b.length
    have h2 := dv_bd k1
    have h3 := dv_bd hb
    have hg := dv_get k1 (i + b.length)
    simp only [rowT]
    rw [List.getD_eq_getElem?_getD (l := b), List.getElem?_eq_none (by omega)]
    simp only [Option.getD_none, Int.mul_zero, Int.add_zero]
    rw [List.take_of_length_le (Nat.le_refl _)] at h1
    have hp := q256_pos (i + b.length)
    have e3 : ai * 256 ^ i * dv b ≤ 255 * (256 ^ i * (256 ^ b.length - 1)) := by
      rw [Int.mul_assoc]
      have a1 : 256 ^ i * dv b ≤ 256 ^ i * (256 ^ b.length - 1) := Int.mul_le_mul_of_nonneg_left (by omega) (Int.le_of_lt (q256_pos i))
      have a2 : 0 ≤ 256 ^ i * dv b := Int.mul_nonneg (Int.le_of_lt (q256_pos i)) h3.1
      have a3 : ai * (256 ^ i * dv b) ≤ 255 * (256 ^ i * dv b) := Int.mul_le_mul_of_nonneg_right hai.2 a2
      omega
    have e4 : 256 ^ i * ((256 : Int) ^ b.length - 1) = 256 ^ (i + b.length) - 256 ^ i := by rw [Int.mul_sub, ← Int.pow_add, Int.mul_one]
    have hpi := q256_pos i
    rw [e4] at e3
    generalize dv (rowT out ai b i b.length).1 = V at *
    generalize (rowT out ai b i b.length).2 = c at *
    generalize (256 : Int) ^ (i + b.length) = s at *
    generalize ai * 256 ^ i * dv b = t at *
    have h5 : V + s * c < s * 256 := by omega
    have h6 : V / s + c < 256 := by
      have : (V + s * c) / s < 256 := Int.ediv_lt_of_lt_mul hp (by rw [Int.mul_comm 256]; exact h5)
      rwa [Int.add_mul_ediv_left _ _ (by omega)] at this
    have h7 : 0 ≤ V / s := Int.ediv_nonneg h2.1 (by omega)
    rw [hg]
    omega
theorem rowL_len : (rowL out ai b i).length = out.length := rowT_len _
theorem rowL_by (ho : By out) (hai : 0 ≤ ai ∧ ai ≤ 255) (hb : By b) : By (rowL out ai b i) := (rowT_bd ho hai hb _).1
theorem rowL_dv (ho : By out) (hai : 0 ≤ ai ∧ ai ≤ 255) (hb : By b) (hl : i + b.length < out.length) (hv : dv out < 256 ^ (i + b.length)) : dv (rowL out ai b i) = dv out + ai * 256 ^ i * dv b := by
  have h := @rowT_dv out b ai i (rowN out ai b i) (by have := @rowN_le out b ai i; omega)
  rw [row_end ho hai hb hl hv, Int.mul_zero, Int.add_zero, List.take_of_length_le (rowN_le).1] at h
  exact h
theorem row_on (ho : By out) (hai : 0 ≤ ai ∧ ai ≤ 255) (hb : By b) (hl : i + b.length < out.length) (hv : dv out < 256 ^ (i + b.length)) {k : Nat} (h : k ≤ rowN out ai b i) :
    (k < rowN out ai b i ↔ k < b.length ∨ 0 < (rowT out ai b i k).2) := by
  have h1 := @rowN_le out b ai i
  have h2 := (@rowT_bd out b ai i ho hai hb k).2
  constructor
  · intro hlt
    by_cases hM : k < b.length
    · omega
    · obtain rfl : k = b.length := by omega
      right
      unfold rowN at hlt
      split at hlt <;> omega
  · intro hc
    rcases Nat.lt_or_ge k (rowN out ai b i) with h3 | h3
    · exact h3
    · obtain rfl : k = rowN out ai b i := by omega
      have := row_end ho hai hb hl hv
      omega
end
def rowsT (a b : List Int) : Nat → List Int
  | 0 => zl (a.length + b.length + 1)
  | i + 1 => rowL (rowsT a b i) (a.getD i 0) b i
def timesL (a b : List Int) : List Int := rowsT a b a.length
theorem rowsT_len (a b : List Int) : ∀ i, (rowsT a b i).length = a.length + b.length + 1
  | 0 => by simp [rowsT]
  | i + 1 => by rw [rowsT, rowL_len, rowsT_len a b i]
theorem rowsT_spec {a b : List Int} (ha : By a) (hb : By b) : ∀ i, i ≤ a.length → By (rowsT a b i) ∧ dv (rowsT a b i) = dv (a.take i) * dv b ∧ dv (rowsT a b i) < 256 ^ (i + b.length)
  | 0, _ => by
    refine ⟨zl_by _, by simp [rowsT, dv_zl, dv], ?_⟩
    simp only [rowsT, dv_zl]
    exact q256_pos _
  | i + 1, h => by
    obtain ⟨h1, h2, h3⟩ := rowsT_spec ha hb i (by omega)
    have hai := ha.get i
    have hl := rowsT_len a b i
    have hd := rowL_dv h1 hai hb (i := i) (by omega) h3
    have hv : dv (rowsT a b (i + 1)) = dv (a.take (i + 1)) * dv b := by
      show dv (rowL _ _ _ _) = _
      rw [hd, h2, dv_take_succ, Int.add_mul, Int.mul_comm (256 ^ i)]
    refine ⟨rowL_by h1 hai hb, hv, ?_⟩
    rw [hv]
    have b1 := dv_bd (ha.take (i + 1))
    have b2 := dv_bd hb
    rw [List.length_take, Nat.min_eq_left h] at b1
    rw [Int.pow_add]
    have e1 : dv (a.take (i + 1)) * dv b ≤ dv (a.take (i + 1)) * 256 ^ b.length := Int.mul_le_mul_of_nonneg_left (by omega) b1.1
    have e2 : dv (a.take (i + 1)) * 256 ^ b.length < 256 ^ (i + 1) * 256 ^ b.length := Int.mul_lt_mul_of_pos_right b1.2 (q256_pos _)
    omega
theorem timesL_len (a b : List Int) : (timesL a b).length = a.length + b.length + 1 := rowsT_len a b _
theorem timesL_by {a b : List Int} (ha : By a) (hb : By b) : By (timesL a b) := (rowsT_spec ha hb a.length (Nat.le_refl _)).1
theorem timesL_dv {a b : List Int} (ha : By a) (hb : By b) : dv (timesL a b) = dv a * dv b := by
  have := (rowsT_spec ha hb a.length (Nat.le_refl _)).2.1
  rwa [List.take_of_length_le (Nat.le_refl _)] at this
end

section
open Go Go.RowKit
set_option linter.unusedVariables false
set_option linter.unusedSimpArgs false

theorem SlV.at {P : Program} {H : AH} {v : Value} {k : IntKind} {l : List Int} {t e : TypeId} (h : SlV H v (iv k l)) (ht : und P t = .slice e) (hs : szt P e = 1) (hd : isAggD (und P e) = false) (ho : okD (und P e) = true) {i : Nat} (hi : i < l.length) :
    ∃ p, xindexAddr P t v (.int .i64 (i : Nat)) = some p ∧ ∀ H' : AH, (∀ j, j < H.length → hget H' j = hget H j) → xload P e p H' = some (.int k (l.getD i 0)) := by
  rcases h with ⟨a, rfl, h0⟩ | ⟨j, off, b, rfl, hb, hc⟩
  · have : l = [] := by simpa [iv] using h0
    subst this
    simp at hi
  · refine ⟨.pointer (some ⟨j, off + i, none⟩), ?_, fun H' hl => ?_⟩
    · unfold xindexAddr
      simp only [ht, hs]
      rw [if_pos ⟨by omega, by rw [iv_length]; omega, by omega⟩]
      simp
    · unfold xload
      simp only [hl j (hget_lt hb), hb, hd, ho]
      simpa using hc i _ (iv_getN k l i hi)
theorem OwnC.fresh {lo : Nat} {H : AH} {v : Value} {e : TypeId} {sz : Nat} {cells : List Value} (h : OwnC lo H v e sz cells) {len : Nat} (hn : cells ≠ []) (hl : cells.length = len * sz) (h0 : 0 < sz) : Fresh lo ⟨cells, e, some sz⟩ len v H := by
  rcases h with ⟨_, h⟩ | ⟨j, n, h1, h2, h3, h4⟩
  · exact absurd h hn
  · have : n = len := Nat.eq_of_mul_eq_mul_right h0 (h4.symm.trans hl)
    subst this
    exact ⟨j, h1, h2, h3⟩
theorem SlV.new {H : AH} {cells : List Value} {t : TypeId} {es : Option Nat} {n : Nat} (hn : cells.length = n) : SlV (H ++ [some ⟨cells, t, es⟩]) (.slice (some ⟨H.length, 0, none⟩) n n) cells :=
  .inr ⟨H.length, 0, ⟨cells, t, es⟩, by rw [hn], by rw [hget_app0]; rfl, fun i x hx => by rw [Nat.zero_add]; exact hx⟩
theorem SlV.of {H : AH} {cells : List Value} {t : TypeId} {es : Option Nat} {n j : Nat} (hj : hget H j = some ⟨cells, t, es⟩) (hn : cells.length = n) : SlV H (.slice (some ⟨j, 0, none⟩) n n) cells :=
  .inr ⟨j, 0, ⟨cells, t, es⟩, by rw [hn], hj, fun i x hx => by rw [Nat.zero_add]; exact hx⟩
theorem iv_ne {k : IntKind} {l : List Int} (h : l ≠ []) : iv k l ≠ [] := by
  intro e
  exact h (List.eq_nil_of_length_eq_zero (by simpa using congrArg List.length e))
end

section
open Go Go.RowKit
set_option linter.unusedVariables false
set_option linter.unusedSimpArgs false
set_option maxRecDepth 100000
set_option maxHeartbeats 2000000

def dB (l : List Int) : Blk := ⟨iv .u64 l, 32, some 1⟩
attribute [local irreducible] pcar pout
attribute [local simp] wb_bool wb_undef with_lit XL_nil XL_cons XLc_val XLc_call step1_eq stepW_t stepW_f stepC_n stepC_s stepX_s stepX_n stepN_s calleeX xrecv oneV xop_eq xopR_s xopR_n wantedA_eq wantedG_n wantedG_s plain1_int plain1_bool plain1_string bits_i64 bits_u64 bits_u32 bits_u16 bits_u8 xeqA xagg xcmp xarr allK_iv num_iv calleeOf xread xeff xbin xint xnil xun xstr xload xconv xpart xfield xfieldAddr xindexAddr xindex bnd asInt? xslice xlen xmin xmax xbuild xfill xappend xapp2 xappstr xappmk xcap xcopy xcells eval_tmp eval_const put_at put_none fr0_at cells_agg cells_int cells_bool cells_string cells_ptr cells_slice notTuple tab iv_all hget_app hget_app0 hget_cons0 hget_cons set_app set_app0 setR setR_one QL_nil QL_cons QLc_val stepQ_t stepQ_f stepQC_n stepQC_s stepQX_s SL_nil SL_cons SLc_val stepS_t stepS_f ltT ltF leT leF eqT eqF ltTn ltFn leTn leFn eqTn eqFn beqT beqF bneT bneF wi64 wu64 wu32 wu16 wu8 tmodP tdivP hgetL hgetNe hgetEq setL nums_def nums_len Nat.succ_le_of_lt List.getElem?_cons_zero List.getElem?_cons_succ Option.getD_some Int.toNat_add Int.toNat_mul agM okM agB agI agS agP agL agA okB okI okS okP okSl okA
theorem dplus_rc {H : AH} {γ : Nat → Option Nat} {a b : List Int} {va vb : Value} (ha : By a) (hb : By b) (hva : SlV H va (iv .u64 a)) (hvb : SlV H vb (iv .u64 b)) (hla : a.length ≤ 1000000) (hlb : b.length ≤ 1000000) (hne : 0 < a.length ∨ 0 < b.length) :
    AC Tryd.prog H.length γ 32 #[va, vb] H (Fresh H.length (dB (plusL a b)) (plusN a b)) := by
  refine ac_of_aw Tryd.func32 rfl Tryd.ntmps32 Tryd.results32 (by simp) ?_
  have hxa := hva.len (P := Tryd.prog) (t := 53) (e := 32) rfl
  have hxb := hvb.len (P := Tryd.prog) (t := 53) (e := 32) rfl
  rw [iv_length] at hxa hxb
  have hn := plusN_le a b
  refine aw_seq ?_
  (refine aw_ops (by kernel_rfl) (fun K hK => ?_); simp (disch := first | omega | (simp only [lnS]; try omega)) [-getElem?_pos, -getElem?_neg]; refine hK _ _ ?_; clear hK K)
  refine aw_seq ?_
  (refine aw_ops (by kernel_rfl) (fun K hK => ?_); simp (disch := first | omega | (simp only [lnS]; try omega)) [-getElem?_pos, -getElem?_neg]; refine hK _ _ ?_; clear hK K)
  refine aw_seq ?_
  (refine aw_ops (by kernel_rfl) (fun K hK => ?_); simp (disch := first | omega | (simp only [lnS]; try omega)) [-getElem?_pos, -getElem?_neg]; refine hK _ _ ?_; clear hK K)
  refine aw_seq ?_
  refine aw_seq ?_
  (refine aw_ops (by kernel_rfl) (fun K hK => ?_); simp (disch := first | omega | (simp only [lnS]; try omega)) [-getElem?_pos, -getElem?_neg]; refine hK _ _ ?_; clear hK K)
  refine aw_block ?_
  refine aw_loop (fun q α H' => ∃ (i : Nat) (v : Value), i + q = plusN a b ∧ α 7 = .int .i64 (i : Nat) ∧ α 6 = .int .u64 (pcar a b i) ∧ α 0 = va ∧ α 1 = vb ∧ α 5 = v ∧ OwnC H.length H' v 32 1 (iv .u64 (pout a b i)) ∧ Low H.length H H') (plusN a b) ?_ ?_
  · exact ⟨0, _, by omega, by (first | (simp [put_at, put_none, fr0_at]; done) | rfl), by (first | (simp [put_at, pcar]; done) | (unfold pcar; rfl)), by (first | (simp [put_at, put_none, fr0_at]; done) | rfl), by (first | (simp [put_at, put_none, fr0_at]; done) | rfl), by (first | (simp [put_at, put_none, fr0_at]; done) | rfl), .inl ⟨rfl, by unfold pout; rfl⟩, Low.refl (Nat.le_refl _)⟩
  rintro q α H' ⟨i, v, hiq, h7, h6, h0, h1, h5, ho, hlow⟩
  have hon := plus_on ha hb (i := i) (by omega)
  have hcb := pcar_bd ha hb i
  have hag := ha.get i
  have hbg := hb.get i
  have hps : pout a b (i + 1) = pout a b i ++ [(pcar a b i + a.getD i 0 + b.getD i 0) % 256] := by rw [pout]
  have hpc : pcar a b (i + 1) = (pcar a b i + a.getD i 0 + b.getD i 0) / 256 := by rw [pcar]
  have hpl := pout_len a b i
  refine aw_seq ?_
  refine aw_seq ?_
  refine aw_cut (fun α' H'' => α' 21 = .bool (decide (i < plusN a b)) ∧ α' 7 = .int .i64 (i : Nat) ∧ α' 6 = .int .u64 (pcar a b i) ∧ α' 0 = va ∧ α' 1 = vb ∧ α' 5 = v ∧ H' = H'') ?_ ?_
  · generalize pcar a b i = c at *
    by_cases c1 : i < a.length
    · have : i < plusN a b := hon.2 (.inl c1)
      (refine aw_ops (by kernel_rfl) (fun K hK => ?_); simp (disch := first | omega | (simp only [lnS]; try omega)) [-getElem?_pos, -getElem?_neg, -xlen, h7, h0, hxa]; refine hK _ _ ?_; clear hK K)
      exact ⟨by simp [put_at, this], by (first | (simp [put_at, put_none, fr0_at, h7]; done) | rfl), by (first | (simp [put_at, put_none, fr0_at, h6]; done) | rfl), by (first | (simp [put_at, put_none, fr0_at, h0]; done) | rfl), by (first | (simp [put_at, put_none, fr0_at, h1]; done) | rfl), by (first | (simp [put_at, put_none, fr0_at, h5]; done) | rfl), rfl⟩
    · by_cases c2 : i < b.length
      · have : i < plusN a b := hon.2 (.inr (.inl c2))
        (refine aw_ops (by kernel_rfl) (fun K hK => ?_); simp (disch := first | omega | (simp only [lnS]; try omega)) [-getElem?_pos, -getElem?_neg, -xlen, h7, h0, h1, hxa, hxb]; refine hK _ _ ?_; clear hK K)
        exact ⟨by simp [put_at, this], by (first | (simp [put_at, put_none, fr0_at, h7]; done) | rfl), by (first | (simp [put_at, put_none, fr0_at, h6]; done) | rfl), by (first | (simp [put_at, put_none, fr0_at, h0]; done) | rfl), by (first | (simp [put_at, put_none, fr0_at, h1]; done) | rfl), by (first | (simp [put_at, put_none, fr0_at, h5]; done) | rfl), rfl⟩
      · by_cases c3 : 0 < c
        · have : i < plusN a b := hon.2 (.inr (.inr c3))
          (refine aw_ops (by kernel_rfl) (fun K hK => ?_); simp (disch := first | omega | (simp only [lnS]; try omega)) [-getElem?_pos, -getElem?_neg, -xlen, h7, h0, h1, h6, hxa, hxb]; refine hK _ _ ?_; clear hK K)
          exact ⟨by simp [put_at, this], by (first | (simp [put_at, put_none, fr0_at, h7]; done) | rfl), by (first | (simp [put_at, put_none, fr0_at, h6]; done) | rfl), by (first | (simp [put_at, put_none, fr0_at, h0]; done) | rfl), by (first | (simp [put_at, put_none, fr0_at, h1]; done) | rfl), by (first | (simp [put_at, put_none, fr0_at, h5]; done) | rfl), rfl⟩
        · have : ¬ i < plusN a b := fun h => by rcases hon.1 h with h | h | h <;> omega
          (refine aw_ops (by kernel_rfl) (fun K hK => ?_); simp (disch := first | omega | (simp only [lnS]; try omega)) [-getElem?_pos, -getElem?_neg, -xlen, h7, h0, h1, h6, hxa, hxb]; refine hK _ _ ?_; clear hK K)
          exact ⟨by simp [put_at, this], by (first | (simp [put_at, put_none, fr0_at, h7]; done) | rfl), by (first | (simp [put_at, put_none, fr0_at, h6]; done) | rfl), by (first | (simp [put_at, put_none, fr0_at, h0]; done) | rfl), by (first | (simp [put_at, put_none, fr0_at, h1]; done) | rfl), by (first | (simp [put_at, put_none, fr0_at, h5]; done) | rfl), rfl⟩
  clear h7 h6 h0 h1 h5
  rintro α H'' ⟨h21, h7, h6, h0, h1, h5, rfl⟩
  by_cases hc : i < plusN a b
  · refine aw_t (by (first | (simp [eval_tmp, put_at, h21, hc]; done) | (simp [eval_tmp, put_at, h21, hc]; omega))) (by kernel_rfl) ?_
    refine aw_skip ?_
    refine aw_seq ?_
    refine aw_block ?_
    refine aw_seq ?_
    refine aw_seq ?_
    (refine aw_ops (by kernel_rfl) (fun K hK => ?_); simp (disch := first | omega | (simp only [lnS]; try omega)) [-getElem?_pos, -getElem?_neg, -xlen, h7, h0, hxa]; refine hK _ _ ?_; clear hK K)
    refine aw_cut (fun α' H'' => α' 7 = .int .i64 (i : Nat) ∧ α' 6 = .int .u64 (pcar a b i + a.getD i 0) ∧ α' 0 = va ∧ α' 1 = vb ∧ α' 5 = v ∧ H' = H'') ?_ ?_
    · generalize pcar a b i = c at *
      by_cases c1 : i < a.length
      · obtain ⟨p, e1, e2⟩ := hva.at (P := Tryd.prog) (t := 53) (e := 32) rfl rfl rfl rfl c1
        have e2 := e2 _ hlow.1
        generalize a.getD i 0 = x at *
        refine aw_t (by (first | (simp [eval_tmp, put_at, c1]; done) | (simp [eval_tmp, put_at, c1]; omega))) (by kernel_rfl) ?_
        (refine aw_ops (by kernel_rfl) (fun K hK => ?_); simp (disch := first | omega | (simp only [lnS]; try omega)) [-getElem?_pos, -getElem?_neg, -xindexAddr, -xload, h7, h0, h6, e1, e2]; refine hK _ _ ?_; clear hK K)
        exact ⟨by (first | (simp [put_at, put_none, fr0_at, h7]; done) | rfl), by (first | (simp [put_at, put_none, fr0_at]; done) | rfl), by (first | (simp [put_at, put_none, fr0_at, h0]; done) | rfl), by (first | (simp [put_at, put_none, fr0_at, h1]; done) | rfl), by (first | (simp [put_at, put_none, fr0_at, h5]; done) | rfl), rfl⟩
      · have : a.getD i 0 = 0 := by rw [List.getD_eq_getElem?_getD, List.getElem?_eq_none (by omega)]; rfl
        rw [this, Int.add_zero]
        refine aw_f (by (first | (simp [eval_tmp, put_at, c1]; done) | (simp [eval_tmp, put_at, c1]; omega))) (by kernel_rfl) ?_
        refine aw_skip ?_
        exact ⟨by (first | (simp [put_at, put_none, fr0_at, h7]; done) | rfl), by (first | (simp [put_at, put_none, fr0_at, h6]; done) | rfl), by (first | (simp [put_at, put_none, fr0_at, h0]; done) | rfl), by (first | (simp [put_at, put_none, fr0_at, h1]; done) | rfl), by (first | (simp [put_at, put_none, fr0_at, h5]; done) | rfl), rfl⟩
    clear h7 h6 h0 h1 h5 h21
    rintro α H'' ⟨h7, h6, h0, h1, h5, rfl⟩
    refine aw_seq ?_
    refine aw_seq ?_
    (refine aw_ops (by kernel_rfl) (fun K hK => ?_); simp (disch := first | omega | (simp only [lnS]; try omega)) [-getElem?_pos, -getElem?_neg, -xlen, h7, h1, hxb]; refine hK _ _ ?_; clear hK K)
    refine aw_cut (fun α' H'' => α' 7 = .int .i64 (i : Nat) ∧ α' 6 = .int .u64 (pcar a b i + a.getD i 0 + b.getD i 0) ∧ α' 0 = va ∧ α' 1 = vb ∧ α' 5 = v ∧ H' = H'') ?_ ?_
    · generalize pcar a b i = c at *
      generalize a.getD i 0 = x at *
      by_cases c1 : i < b.length
      · obtain ⟨p, e1, e2⟩ := hvb.at (P := Tryd.prog) (t := 53) (e := 32) rfl rfl rfl rfl c1
        have e2 := e2 _ hlow.1
        generalize b.getD i 0 = y at *
        refine aw_t (by (first | (simp [eval_tmp, put_at, c1]; done) | (simp [eval_tmp, put_at, c1]; omega))) (by kernel_rfl) ?_
        (refine aw_ops (by kernel_rfl) (fun K hK => ?_); simp (disch := first | omega | (simp only [lnS]; try omega)) [-getElem?_pos, -getElem?_neg, -xindexAddr, -xload, h7, h1, h6, e1, e2]; refine hK _ _ ?_; clear hK K)
        exact ⟨by (first | (simp [put_at, put_none, fr0_at, h7]; done) | rfl), by (first | (simp [put_at, put_none, fr0_at]; done) | rfl), by (first | (simp [put_at, put_none, fr0_at, h0]; done) | rfl), by (first | (simp [put_at, put_none, fr0_at, h1]; done) | rfl), by (first | (simp [put_at, put_none, fr0_at, h5]; done) | rfl), rfl⟩
      · have : b.getD i 0 = 0 := by rw [List.getD_eq_getElem?_getD, List.getElem?_eq_none (by omega)]; rfl
        rw [this, Int.add_zero]
        refine aw_f (by (first | (simp [eval_tmp, put_at, c1]; done) | (simp [eval_tmp, put_at, c1]; omega))) (by kernel_rfl) ?_
        refine aw_skip ?_
        exact ⟨by (first | (simp [put_at, put_none, fr0_at, h7]; done) | rfl), by (first | (simp [put_at, put_none, fr0_at, h6]; done) | rfl), by (first | (simp [put_at, put_none, fr0_at, h0]; done) | rfl), by (first | (simp [put_at, put_none, fr0_at, h1]; done) | rfl), by (first | (simp [put_at, put_none, fr0_at, h5]; done) | rfl), rfl⟩
    clear h7 h6 h0 h1 h5
    rintro α H'' ⟨h7, h6, h0, h1, h5, rfl⟩
    generalize hx : pcar a b i + a.getD i 0 + b.getD i 0 = x at *
    have hxbd : 0 ≤ x ∧ x ≤ 1000 := by omega
    obtain ⟨v', H2, hap, ho', hlow'⟩ := own_append (P := Tryd.prog) (nro := H.length) (lo := H.length) (t := 53) (e := 32) (H := H' ++ [some ⟨[.int .u64 (x % 256)], 32, some 1⟩]) (x := .slice (some ⟨H'.length, 0, none⟩) 1 1) (sz := 1) (news := [.int .u64 (x % 256)])
      (by simp [tab]) (by simp [tab]) (by omega) (by simp [tab, cells_int]) (ho.push _) (by have := hlow.2; simp; omega) (by omega) (by simp) (by simp [xcells, hget_app0, hget_cons0]) (by simp) (by simp) (by simp [tab, hpl]; omega) (by simp [maxLen, hpl]; omega)
    refine aw_seq ?_
    (refine aw_ops (by kernel_rfl) (fun K hK => ?_); simp (disch := first | omega | (simp only [lnS]; try omega)) [-getElem?_pos, -getElem?_neg, -xappend, h5, h6, hap]; refine hK _ _ ?_; clear hK K)
    (refine aw_ops (by kernel_rfl) (fun K hK => ?_); simp (disch := first | omega | (simp only [lnS]; try omega)) [-getElem?_pos, -getElem?_neg, h6]; refine hK _ _ ?_; clear hK K)
    (refine aw_ops (by kernel_rfl) (fun K hK => ?_); simp (disch := first | omega | (simp only [lnS]; try omega)) [-getElem?_pos, -getElem?_neg, h7]; refine hK _ _ ?_; clear hK K)
    refine ⟨q - 1, by omega, i + 1, v', by omega, by (first | (simp [put_at, put_none, fr0_at]; done) | rfl), by rw [hpc]; (first | (simp [put_at, put_none, fr0_at]; done) | rfl), by (first | (simp [put_at, put_none, fr0_at, h0]; done) | rfl), by (first | (simp [put_at, put_none, fr0_at, h1]; done) | rfl), by (first | (simp [put_at, put_none, fr0_at]; done) | rfl), ?_, (hlow.trans (Low.push (by have := hlow.2; omega) _)).trans hlow'⟩
    rw [hps, iv_append]
    exact ho'
  · refine aw_f (by (first | (simp [eval_tmp, put_at, h21, hc]; done) | (simp [eval_tmp, put_at, h21, hc]; omega))) (by kernel_rfl) ?_
    obtain rfl : i = plusN a b := by omega
    refine aw_exit ?_
    refine aw_seq ?_
    (refine aw_ops (by kernel_rfl) (fun K hK => ?_); simp (disch := first | omega | (simp only [lnS]; try omega)) [-getElem?_pos, -getElem?_neg]; refine hK _ _ ?_; clear hK K)
    have hf := ho.fresh (len := plusN a b) (iv_ne (fun e => by have := congrArg List.length e; simp [hpl] at this; omega)) (by rw [iv_length, hpl]; omega) (by omega)
    have hpd : plusL a b = pout a b (plusN a b) := rfl
    unfold dB
    rw [hpd]
    (refine aw_ret ?_; simp (disch := first | omega | (simp only [lnS]; try omega)) [-getElem?_pos, -getElem?_neg, thenQ_ret, scopeQ_ret, inBlockQ_ret, RQ, resL, resV, h5])
    exact hf
end

section
open Go Go.RowKit
set_option linter.unusedVariables false
set_option linter.unusedSimpArgs false
set_option maxRecDepth 100000
set_option maxHeartbeats 2000000

theorem zeros_u64 (n : Nat) : ((List.range n).map fun j => [Value.int .u64 0][j % 1]?.getD undef) = iv .u64 (zl n) := by
  have e : (fun j : Nat => [Value.int .u64 0][j % 1]?.getD undef) = fun _ => Value.int .u64 0 := by
    funext j
    rw [Nat.mod_one]
    rfl
  rw [e]
  unfold iv zl
  rw [List.map_replicate]
  apply List.ext_getElem
  · simp
  · intro i h1 h2; simp
attribute [local irreducible] rowT rowsT
attribute [local simp] wb_bool wb_undef with_lit XL_nil XL_cons XLc_val XLc_call step1_eq stepW_t stepW_f stepC_n stepC_s stepX_s stepX_n stepN_s calleeX xrecv oneV xop_eq xopR_s xopR_n wantedA_eq wantedG_n wantedG_s plain1_int plain1_bool plain1_string bits_i64 bits_u64 bits_u32 bits_u16 bits_u8 xeqA xagg xcmp xarr allK_iv num_iv calleeOf xread xeff xbin xint xnil xun xstr xload xconv xpart xfield xfieldAddr xindexAddr xindex bnd asInt? xslice xlen xmin xmax xbuild xfill xappend xapp2 xappstr xappmk xcap xcopy xcells eval_tmp eval_const put_at put_none fr0_at cells_agg cells_int cells_bool cells_string cells_ptr cells_slice notTuple tab iv_all hget_app hget_app0 hget_cons0 hget_cons set_app set_app0 setR setR_one QL_nil QL_cons QLc_val stepQ_t stepQ_f stepQC_n stepQC_s stepQX_s SL_nil SL_cons SLc_val stepS_t stepS_f ltT ltF leT leF eqT eqF ltTn ltFn leTn leFn eqTn eqFn beqT beqF bneT bneF wi64 wu64 wu32 wu16 wu8 tmodP tdivP hgetL hgetNe hgetEq setL nums_def nums_len Nat.succ_le_of_lt List.getElem?_cons_zero List.getElem?_cons_succ Option.getD_some Int.toNat_add Int.toNat_mul agM okM agB agI agS agP agL agA okB okI okS okP okSl okA
theorem dtimes_rc {H : AH} {γ : Nat → Option Nat} {a b : List Int} {va vb : Value} (ha : By a) (hb : By b) (hva : SlV H va (iv .u64 a)) (hvb : SlV H vb (iv .u64 b)) (hla : a.length ≤ 1000000) (hlb : b.length ≤ 1000000) :
    AC Tryd.prog H.length γ 34 #[va, vb] H (Fresh H.length (dB (timesL a b)) (a.length + b.length + 1)) := by
  refine ac_of_aw Tryd.func34 rfl Tryd.ntmps34 Tryd.results34 (by simp) ?_
  have hxa := hva.len (P := Tryd.prog) (t := 53) (e := 32) rfl
  have hxb := hvb.len (P := Tryd.prog) (t := 53) (e := 32) rfl
  rw [iv_length] at hxa hxb
  obtain ⟨n, hn⟩ : ∃ n, n = a.length + b.length + 1 := ⟨_, rfl⟩
  have hn' : (a.length : Int) + b.length + 1 = (n : Int) := by omega
  rw [← hn]
  have h00 : rowsT a b 0 = zl n := by rw [rowsT, hn]
  refine aw_seq ?_
  (refine aw_ops (by kernel_rfl) (fun K hK => ?_); simp (disch := first | omega | (simp only [lnS]; try omega)) [-getElem?_pos, -getElem?_neg]; refine hK _ _ ?_; clear hK K)
  refine aw_seq ?_
  (refine aw_ops (by kernel_rfl) (fun K hK => ?_); simp (disch := first | omega | (simp only [lnS]; try omega)) [-getElem?_pos, -getElem?_neg, -xlen, hxa, hxb, hn', maxLen, zeros_u64]; refine hK _ _ ?_; clear hK K)
  refine aw_seq ?_
  refine aw_seq ?_
  (refine aw_ops (by kernel_rfl) (fun K hK => ?_); simp (disch := first | omega | (simp only [lnS]; try omega)) [-getElem?_pos, -getElem?_neg]; refine hK _ _ ?_; clear hK K)
  rw [← h00]
  refine aw_block ?_
  refine aw_loop (fun q α H' => ∃ i : Nat, i + q = a.length ∧ α 6 = .int .i64 (i : Nat) ∧ α 0 = va ∧ α 1 = vb ∧ α 5 = .slice (some ⟨H.length, 0, none⟩) n n ∧ H' = H ++ [some ⟨iv .u64 (rowsT a b i), 32, some 1⟩]) a.length ?_ ?_
  · exact ⟨0, by omega, by (first | (simp [put_at, put_none, fr0_at]; done) | rfl), by (first | (simp [put_at, put_none, fr0_at]; done) | rfl), by (first | (simp [put_at, put_none, fr0_at]; done) | rfl), by (first | (simp [put_at, put_none, fr0_at]; done) | rfl), rfl⟩
  rintro q α H' ⟨i, hiq, h6, h0, h1, h5, rfl⟩
  refine aw_seq ?_
  refine aw_seq ?_
  by_cases hi : i < a.length
  · obtain ⟨s1, s2, s3⟩ := rowsT_spec ha hb i (by omega)
    have hol := rowsT_len a b i
    have hrs : rowsT a b (i + 1) = rowL (rowsT a b i) (a.getD i 0) b i := by rw [rowsT]
    have hai := ha.get i
    obtain ⟨pa, ea1, ea2⟩ := hva.at (P := Tryd.prog) (t := 53) (e := 32) rfl rfl rfl rfl hi
    have hlow : ∀ (L : AH) (j : Nat), j < H.length → hget (H ++ L) j = hget H j := fun L j hj => hget_left hj
    clear s2 h00
    generalize rowsT a b i = O at *
    generalize a.getD i 0 = ai at *
    have r0 : (rowT O ai b i 0).1 = O ∧ (rowT O ai b i 0).2 = 0 := by rw [rowT]; exact ⟨rfl, rfl⟩
    (refine aw_ops (by kernel_rfl) (fun K hK => ?_); simp (disch := first | omega | (simp only [lnS]; try omega)) [-getElem?_pos, -getElem?_neg, -xlen, h6, h0, hxa]; refine hK _ _ ?_; clear hK K)
    refine aw_t (by (first | (simp [eval_tmp, put_at, hi]; done) | (simp [eval_tmp, put_at, hi]; omega))) (by kernel_rfl) ?_
    refine aw_skip ?_
    refine aw_seq ?_
    refine aw_block ?_
    refine aw_seq ?_
    (refine aw_ops (by kernel_rfl) (fun K hK => ?_); simp (disch := first | omega | (simp only [lnS]; try omega)) [-getElem?_pos, -getElem?_neg]; refine hK _ _ ?_; clear hK K)
    refine aw_seq ?_
    (refine aw_ops (by kernel_rfl) (fun K hK => ?_); simp (disch := first | omega | (simp only [lnS]; try omega)) [-getElem?_pos, -getElem?_neg]; refine hK _ _ ?_; clear hK K)
    refine aw_block ?_
    refine aw_loop (fun q2 α H' => ∃ k : Nat, k + q2 = rowN O ai b i ∧ α 8 = .int .i64 (k : Nat) ∧ α 7 = .int .u64 (rowT O ai b i k).2 ∧ α 6 = .int .i64 (i : Nat) ∧ α 0 = va ∧ α 1 = vb ∧ α 5 = .slice (some ⟨H.length, 0, none⟩) n n ∧ H' = H ++ [some ⟨iv .u64 (rowT O ai b i k).1, 32, some 1⟩]) (rowN O ai b i) ?_ ?_
    · exact ⟨0, by omega, by (first | (simp [put_at, put_none, fr0_at]; done) | rfl), by rw [r0.2]; (first | (simp [put_at, put_none, fr0_at]; done) | rfl), by (first | (simp [put_at, put_none, fr0_at, h6]; done) | rfl), by (first | (simp [put_at, put_none, fr0_at, h0]; done) | rfl), by (first | (simp [put_at, put_none, fr0_at, h1]; done) | rfl), by (first | (simp [put_at, put_none, fr0_at, h5]; done) | rfl), by rw [r0.1]⟩
    clear h6 h0 h1 h5
    rintro q2 α H' ⟨k, hkq, h8, h7, h6, h0, h1, h5, rfl⟩
    have hon := row_on s1 hai hb (i := i) (by omega) s3 (k := k) (by omega)
    have hnb := @rowN_le O b ai i
    obtain ⟨b1, b2, b3⟩ := @rowT_bd O b ai i s1 hai hb k
    have hrl := @rowT_len O b ai i k
    have hmb := mul_bd hai hb k
    have hdg := b1.get (i + k)
    have hst1 : (rowT O ai b i (k + 1)).1 = (rowT O ai b i k).1.set (i + k) (((rowT O ai b i k).1.getD (i + k) 0 + (rowT O ai b i k).2 + ai * b.getD k 0) % 256) := by rw [rowT]
    have hst2 : (rowT O ai b i (k + 1)).2 = ((rowT O ai b i k).1.getD (i + k) 0 + (rowT O ai b i k).2 + ai * b.getD k 0) / 256 := by rw [rowT]
    refine aw_seq ?_
    refine aw_seq ?_
    refine aw_cut (fun α' H'' => α' 30 = .bool (decide (k < rowN O ai b i)) ∧ α' 8 = .int .i64 (k : Nat) ∧ α' 7 = .int .u64 (rowT O ai b i k).2 ∧ α' 6 = .int .i64 (i : Nat) ∧ α' 0 = va ∧ α' 1 = vb ∧ α' 5 = .slice (some ⟨H.length, 0, none⟩) n n ∧ H'' = H ++ [some ⟨iv .u64 (rowT O ai b i k).1, 32, some 1⟩]) ?_ ?_
    · clear hst1 hst2
      generalize (rowT O ai b i k).1 = R at *
      generalize (rowT O ai b i k).2 = c at *
      by_cases c1 : k < b.length
      · have : k < rowN O ai b i := hon.2 (.inl c1)
        (refine aw_ops (by kernel_rfl) (fun K hK => ?_); simp (disch := first | omega | (simp only [lnS]; try omega)) [-getElem?_pos, -getElem?_neg, -xlen, h8, h1, hxb]; refine hK _ _ ?_; clear hK K)
        exact ⟨by simp [put_at, this], by (first | (simp [put_at, put_none, fr0_at, h8]; done) | rfl), by (first | (simp [put_at, put_none, fr0_at, h7]; done) | rfl), by (first | (simp [put_at, put_none, fr0_at, h6]; done) | rfl), by (first | (simp [put_at, put_none, fr0_at, h0]; done) | rfl), by (first | (simp [put_at, put_none, fr0_at, h1]; done) | rfl), by (first | (simp [put_at, put_none, fr0_at, h5]; done) | rfl), rfl⟩
      · by_cases c3 : 0 < c
        · have : k < rowN O ai b i := hon.2 (.inr c3)
          (refine aw_ops (by kernel_rfl) (fun K hK => ?_); simp (disch := first | omega | (simp only [lnS]; try omega)) [-getElem?_pos, -getElem?_neg, -xlen, h8, h1, h7, hxb]; refine hK _ _ ?_; clear hK K)
          exact ⟨by simp [put_at, this], by (first | (simp [put_at, put_none, fr0_at, h8]; done) | rfl), by (first | (simp [put_at, put_none, fr0_at, h7]; done) | rfl), by (first | (simp [put_at, put_none, fr0_at, h6]; done) | rfl), by (first | (simp [put_at, put_none, fr0_at, h0]; done) | rfl), by (first | (simp [put_at, put_none, fr0_at, h1]; done) | rfl), by (first | (simp [put_at, put_none, fr0_at, h5]; done) | rfl), rfl⟩
        · have : ¬ k < rowN O ai b i := fun h => by rcases hon.1 h with h | h <;> omega
          (refine aw_ops (by kernel_rfl) (fun K hK => ?_); simp (disch := first | omega | (simp only [lnS]; try omega)) [-getElem?_pos, -getElem?_neg, -xlen, h8, h1, h7, hxb]; refine hK _ _ ?_; clear hK K)
          exact ⟨by simp [put_at, this], by (first | (simp [put_at, put_none, fr0_at, h8]; done) | rfl), by (first | (simp [put_at, put_none, fr0_at, h7]; done) | rfl), by (first | (simp [put_at, put_none, fr0_at, h6]; done) | rfl), by (first | (simp [put_at, put_none, fr0_at, h0]; done) | rfl), by (first | (simp [put_at, put_none, fr0_at, h1]; done) | rfl), by (first | (simp [put_at, put_none, fr0_at, h5]; done) | rfl), rfl⟩
    clear h8 h7 h6 h0 h1 h5
    rintro α H'' ⟨h30, h8, h7, h6, h0, h1, h5, rfl⟩
    by_cases hc : k < rowN O ai b i
    · have hlt : i + k < O.length := by omega
      have hget2 : (iv .u64 (rowT O ai b i k).1)[i + k]? = some (.int .u64 ((rowT O ai b i k).1.getD (i + k) 0)) := iv_getN _ _ _ (by omega)
      generalize (rowT O ai b i k).1.getD (i + k) 0 = d at *
      generalize (rowT O ai b i k).1 = R at *
      generalize (rowT O ai b i k).2 = c at *
      obtain ⟨ik, hik⟩ : ∃ ik : Nat, ik = i + k := ⟨_, rfl⟩
      have hik' : (i : Int) + (k : Int) = (ik : Int) := by omega
      rw [← hik] at hget2 hst1 hlt
      have hea := ea2 (H ++ [some ⟨iv .u64 R, 32, some 1⟩]) (hlow _)
      refine aw_t (by (first | (simp [eval_tmp, put_at, h30, hc]; done) | (simp [eval_tmp, put_at, h30, hc]; omega))) (by kernel_rfl) ?_
      refine aw_skip ?_
      refine aw_seq ?_
      refine aw_block ?_
      refine aw_seq ?_
      (refine aw_ops (by kernel_rfl) (fun K hK => ?_); simp (disch := first | omega | (simp only [lnS]; try omega)) [-getElem?_pos, -getElem?_neg, h5, h6, h8, h7, hik', hget2]; refine hK _ _ ?_; clear hK K)
      refine aw_seq ?_
      refine aw_seq ?_
      (refine aw_ops (by kernel_rfl) (fun K hK => ?_); simp (disch := first | omega | (simp only [lnS]; try omega)) [-getElem?_pos, -getElem?_neg, -xlen, h8, h1, hxb]; refine hK _ _ ?_; clear hK K)
      refine aw_cut (fun α' H'' => α' 9 = .int .u64 (d + c + ai * b.getD k 0) ∧ α' 8 = .int .i64 (k : Nat) ∧ α' 6 = .int .i64 (i : Nat) ∧ α' 0 = va ∧ α' 1 = vb ∧ α' 5 = .slice (some ⟨H.length, 0, none⟩) n n ∧ H'' = H ++ [some ⟨iv .u64 R, 32, some 1⟩]) ?_ ?_
      · by_cases c1 : k < b.length
        · obtain ⟨pb, eb1, eb2⟩ := hvb.at (P := Tryd.prog) (t := 53) (e := 32) rfl rfl rfl rfl c1
          have heb := eb2 (H ++ [some ⟨iv .u64 R, 32, some 1⟩]) (hlow _)
          generalize b.getD k 0 = bk at *
          refine aw_t (by (first | (simp [eval_tmp, put_at, c1]; done) | (simp [eval_tmp, put_at, c1]; omega))) (by kernel_rfl) ?_
          (refine aw_plan [] [] [0, 1, 2, 3, 4, 5, 6, 7, 8, 9, 10, 11] 12 0 (by kernel_rfl) (by kernel_rfl) (by kernel_rfl) (fun K hK => ?_)); simp only [sel, List.getElem?_cons_succ, List.getElem?_cons_zero, List.drop_succ_cons, List.drop_zero]; simp (disch := first | omega | (simp only [lnS]; try omega)) [-getElem?_pos, -getElem?_neg, -xindexAddr, -xload, h0, h1, h6, h8, ea1, eb1, hea, heb, PL_nil, plainB_lit, PL_cons, PLc_val, PLc_new, stepP_t, stepP_f, stepPC_n, stepPC_s, stepPX_s, stepPX_n, stepPV_n, stepPV_s, stepPA_t, stepPA_c, stepPA_l, stepPN_s, allocOp, reloc_sl, reloc_ptr, List.map_cons, List.map_nil, List.nil_append, List.append_assoc, List.cons_append, Nat.add_assoc]
          refine hK _ _ ?_; clear hK K
          exact ⟨by (first | (simp [put_at, put_none, fr0_at]; done) | rfl), by (first | (simp [put_at, put_none, fr0_at, h8]; done) | rfl), by (first | (simp [put_at, put_none, fr0_at, h6]; done) | rfl), by (first | (simp [put_at, put_none, fr0_at, h0]; done) | rfl), by (first | (simp [put_at, put_none, fr0_at, h1]; done) | rfl), by (first | (simp [put_at, put_none, fr0_at, h5]; done) | rfl), rfl⟩
        · have : b.getD k 0 = 0 := by rw [List.getD_eq_getElem?_getD, List.getElem?_eq_none (by omega)]; rfl
          rw [this, Int.mul_zero, Int.add_zero]
          refine aw_f (by (first | (simp [eval_tmp, put_at, c1]; done) | (simp [eval_tmp, put_at, c1]; omega))) (by kernel_rfl) ?_
          refine aw_skip ?_
          exact ⟨by (first | (simp [put_at, put_none, fr0_at]; done) | rfl), by (first | (simp [put_at, put_none, fr0_at, h8]; done) | rfl), by (first | (simp [put_at, put_none, fr0_at, h6]; done) | rfl), by (first | (simp [put_at, put_none, fr0_at, h0]; done) | rfl), by (first | (simp [put_at, put_none, fr0_at, h1]; done) | rfl), by (first | (simp [put_at, put_none, fr0_at, h5]; done) | rfl), rfl⟩
      clear h8 h7 h6 h0 h1 h5 h30
      rintro α H'' ⟨h9, h8, h6, h0, h1, h5, rfl⟩
      generalize hx : d + c + ai * b.getD k 0 = x at *
      have hxbd : 0 ≤ x ∧ x ≤ 70000 := by omega
      refine aw_seq ?_
      (refine aw_ops (by kernel_rfl) (fun K hK => ?_); simp (disch := first | omega | (simp only [lnS]; try omega)) [-getElem?_pos, -getElem?_neg, h5, h6, h8, h9, hik', hrl, iv_set, ← hst1]; refine hK _ _ ?_; clear hK K)
      (refine aw_ops (by kernel_rfl) (fun K hK => ?_); simp (disch := first | omega | (simp only [lnS]; try omega)) [-getElem?_pos, -getElem?_neg, h9]; refine hK _ _ ?_; clear hK K)
      (refine aw_ops (by kernel_rfl) (fun K hK => ?_); simp (disch := first | omega | (simp only [lnS]; try omega)) [-getElem?_pos, -getElem?_neg, h8]; refine hK _ _ ?_; clear hK K)
      exact ⟨q2 - 1, by omega, k + 1, by omega, by (first | (simp [put_at, put_none, fr0_at]; done) | rfl), by rw [hst2]; (first | (simp [put_at, put_none, fr0_at]; done) | rfl), by (first | (simp [put_at, put_none, fr0_at, h6]; done) | rfl), by (first | (simp [put_at, put_none, fr0_at, h0]; done) | rfl), by (first | (simp [put_at, put_none, fr0_at, h1]; done) | rfl), by (first | (simp [put_at, put_none, fr0_at, h5]; done) | rfl), rfl⟩
    · refine aw_f (by (first | (simp [eval_tmp, put_at, h30, hc]; done) | (simp [eval_tmp, put_at, h30, hc]; omega))) (by kernel_rfl) ?_
      obtain rfl : k = rowN O ai b i := by omega
      refine aw_exit ?_
      (refine aw_ops (by kernel_rfl) (fun K hK => ?_); simp (disch := first | omega | (simp only [lnS]; try omega)) [-getElem?_pos, -getElem?_neg, h6]; refine hK _ _ ?_; clear hK K)
      exact ⟨q - 1, by omega, i + 1, by omega, by (first | (simp [put_at, put_none, fr0_at]; done) | rfl), by (first | (simp [put_at, put_none, fr0_at, h0]; done) | rfl), by (first | (simp [put_at, put_none, fr0_at, h1]; done) | rfl), by (first | (simp [put_at, put_none, fr0_at, h5]; done) | rfl), by rw [hrs]; rfl⟩
  · (refine aw_ops (by kernel_rfl) (fun K hK => ?_); simp (disch := first | omega | (simp only [lnS]; try omega)) [-getElem?_pos, -getElem?_neg, -xlen, h6, h0, hxa]; refine hK _ _ ?_; clear hK K)
    refine aw_f (by (first | (simp [eval_tmp, put_at, hi]; done) | (simp [eval_tmp, put_at, hi]; omega))) (by kernel_rfl) ?_
    obtain rfl : i = a.length := by omega
    refine aw_exit ?_
    refine aw_seq ?_
    (refine aw_ops (by kernel_rfl) (fun K hK => ?_); simp (disch := first | omega | (simp only [lnS]; try omega)) [-getElem?_pos, -getElem?_neg]; refine hK _ _ ?_; clear hK K)
    have htl : timesL a b = rowsT a b a.length := rfl
    unfold dB
    rw [htl]
    generalize rowsT a b a.length = R at *
    (refine aw_ret ?_; simp (disch := first | omega | (simp only [lnS]; try omega)) [-getElem?_pos, -getElem?_neg, thenQ_ret, scopeQ_ret, inBlockQ_ret, RQ, resL, resV, h5])
    exact ⟨H.length, Nat.le_refl _, rfl, by rw [hget_app0]; rfl⟩
end
end Go.Proofs.YtnddofgabipknaaDoor
