/-
  A tag under way, told by what was written.
-/
import Derived.Test.YthkcbhealphpmaaTk
namespace Go.Proofs.Ythkcbhealphpmaa
open Go Go.RowKit
set_option linter.unusedVariables false
set_option linter.unusedSimpArgs false
set_option maxRecDepth 100000
set_option maxHeartbeats 2000000

/-- Block k of a text. -/
def blk (T : List Int) (k : Nat) : List Int := (T.drop (16 * k)).take 16
/-- The sum behind k blocks. -/
def ac (R : Int) (T : List Int) : Nat → Int
  | 0 => 0
  | k + 1 => (ac R T k + (dv (blk T k) + 256 ^ (blk T k).length)) * R % pP
theorem blk_app {T U : List Int} {k : Nat} (h : 16 * k + 16 ≤ T.length) : blk (T ++ U) k = blk T k := by
  unfold blk
  rw [List.drop_append_of_le_length (by omega), List.take_append_of_le_length (by rw [List.length_drop]; omega)]
theorem ac_app {R : Int} {T U : List Int} : ∀ k, 16 * k ≤ T.length → ac R (T ++ U) k = ac R T k
  | 0, _ => rfl
  | k + 1, h => by rw [ac, ac, ac_app k (by omega), blk_app (by omega)]
theorem setI_take {rs l : List Int} {o : Nat} (h : o + l.length ≤ rs.length) : (setI rs o l).take (o + l.length) = rs.take o ++ l := by
  apply List.ext_getElem?
  intro p
  by_cases h1 : p < o + l.length
  · have h2 := setI_get l rs o p h
    rw [List.getD_eq_getElem?_getD, List.getElem?_eq_getElem (by rw [setI_len]; omega)] at h2
    rw [List.getElem?_take_of_lt h1, List.getElem?_eq_getElem (by rw [setI_len]; omega)]
    by_cases h3 : p < o
    · rw [if_neg (by omega), List.getD_eq_getElem?_getD, List.getElem?_eq_getElem (by omega)] at h2
      rw [List.getElem?_append_left (by rw [List.length_take]; omega), List.getElem?_take_of_lt h3, List.getElem?_eq_getElem (by omega)]
      exact congrArg some h2
    · rw [if_pos (by omega), List.getD_eq_getElem?_getD, List.getElem?_eq_getElem (by omega)] at h2
      rw [List.getElem?_append_right (by rw [List.length_take]; omega), List.length_take, Nat.min_eq_left (by omega), List.getElem?_eq_getElem (by omega)]
      exact congrArg some h2
  · rw [List.getElem?_eq_none (by rw [List.length_take, setI_len]; omega), List.getElem?_eq_none (by rw [List.length_append, List.length_take]; omega)]
structure PS (r T s rs : List Int) (o : Nat) : Prop where
  iv : Iv s
  hl : rs.length = 16
  by' : By rs
  ho : o = T.length % 16
  hv : v5 s % pP = ac (v5 r) T (T.length / 16)
  hr : rs.take o = T.drop (16 * (T.length / 16))
theorem PS.lt {r T s rs : List Int} {o : Nat} (h : PS r T s rs o) : o < 16 := by have := h.ho; omega
theorem v5_zl : v5 (zl 5) = 0 := rfl
theorem PS.start (r : List Int) : PS r [] (zl 5) (zl 16) 0 :=
  ⟨⟨0, 0, 0, 0, 0, rfl, by omega, by omega, by omega, by omega, by omega⟩, by simp, zl_by 16, rfl, rfl, rfl⟩
theorem PS.part {r T s rs l : List Int} {o : Nat} (h : PS r T s rs o) (hl : By l) (h1 : o + l.length < 16) : PS r (T ++ l) s (setI rs o l) (o + l.length) := by
  have ho := h.ho
  have hlen : (T ++ l).length = T.length + l.length := List.length_append
  have e1 : (T ++ l).length / 16 = T.length / 16 := by omega
  refine ⟨h.iv, by rw [setI_len, h.hl], setI_by hl h.by' (by rw [h.hl]; omega), by omega, ?_, ?_⟩
  · rw [e1, ac_app _ (by omega)]; exact h.hv
  · rw [e1, setI_take (by rw [h.hl]; omega), h.hr, List.drop_append_of_le_length (by omega)]
theorem PS.full {r T s rs l p : List Int} {o : Nat} (h : PS r T s rs o) (hr : Nm r) (hl : By l) (h1 : o + l.length = 16) (hp : Nm p) (hpv : v5 p = dv (setI rs o l) + 340282366920938463463374607431768211456) : PS r (T ++ l) (takF s p r) (setI rs o l) 0 := by
  have ho := h.ho
  have hlen : (T ++ l).length = T.length + l.length := List.length_append
  have e1 : (T ++ l).length / 16 = T.length / 16 + 1 := by omega
  have hsl : (setI rs o l).length = 16 := by rw [setI_len, h.hl]
  have e2 := setI_take (rs := rs) (l := l) (o := o) (by rw [h.hl]; omega)
  rw [h1, List.take_of_length_le (by omega), h.hr] at e2
  have e3 : blk (T ++ l) (T.length / 16) = setI rs o l := by
    unfold blk
    rw [List.drop_append_of_le_length (by omega), e2, List.take_of_length_le]
    rw [List.length_append, List.length_drop]; omega
  refine ⟨takF_iv h.iv hp hr, hsl, setI_by hl h.by' (by rw [h.hl]; omega), by omega, ?_, ?_⟩
  · rw [e1, ac, e3, ac_app _ (by omega), ← h.hv, takF_p h.iv hp hr, hpv, hsl, show (256 : Int) ^ 16 = 340282366920938463463374607431768211456 by decide, Int.mul_emod (v5 s % pP + _), Int.add_emod (v5 s % pP), Int.emod_emod, ← Int.add_emod, ← Int.mul_emod]
  · rw [e1, List.take_zero, List.drop_of_length_le (by omega)]
/-- The bytes of a text. -/
theorem nums_extract (s : ByteArray) (a b : Nat) : nums (s.extract a b) = ((nums s).drop a).take (b - a) := by
  unfold nums
  rw [Lib.extract_data, List.map_take, List.map_drop]
theorem nums_drop (s : ByteArray) (a : Nat) : nums (s.extract a s.size) = (nums s).drop a := by
  rw [nums_extract, List.take_of_length_le (by rw [List.length_drop, nums_len]; omega)]
/-- Parts as one text. -/
def cat : List ByteArray → List Int
  | [] => []
  | p :: r => nums p ++ cat r
theorem cat_append (l r : List ByteArray) : cat (l ++ r) = cat l ++ cat r := by
  induction l with
  | nil => rfl
  | cons p l ih => show nums p ++ cat (l ++ r) = nums p ++ cat l ++ cat r; rw [ih, List.append_assoc]
theorem cat_by (l : List ByteArray) : By (cat l) := by
  induction l with
  | nil => intro x hx; cases hx
  | cons p l ih =>
    intro x hx
    rcases List.mem_append.1 hx with h | h
    · exact nums_bd p x h
    · exact ih x h
/-- A slice of strings that lies apart from block b. -/
def SlS (H : AH) (b : Nat) (v : Value) (ps : List ByteArray) : Prop :=
  (∃ a, v = .slice a 0 0 ∧ ps = []) ∨ ∃ j off k, v = .slice (some ⟨j, off, none⟩) ps.length ps.length ∧ j ≠ b ∧ hget H j = some k ∧ ∀ i p, ps[i]? = some p → k.cells[off + i]? = some (.string p)
end Go.Proofs.Ythkcbhealphpmaa
