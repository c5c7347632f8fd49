/-
  A code of which one digit was changed, or two unlike ones swapped, is refused: plain numbers and lists.
-/
import Derived.Test.YtmnkbdclnaekkaaLaws
namespace Go.Proofs.Ytmnkbdclnaekkaa
open Go Go.RowKit
set_option linter.unusedSimpArgs false
set_option linter.unusedVariables false
set_option maxRecDepth 100000
set_option maxHeartbeats 1000000

attribute [local irreducible] rd outK fits outD tx checkedF zl digitsF
theorem pref_ne (X Y : List Int) (n : Nat) (hne : pref 10 X n % 97 ≠ pref 10 Y n % 97) (h : ∀ p, n ≤ p → X.getD p 0 = Y.getD p 0) : ∀ m, pref 10 X (n + m) % 97 ≠ pref 10 Y (n + m) % 97
  | 0 => hne
  | m + 1 => by
    have ih := pref_ne X Y n hne h m
    have e := h (n + m) (by omega)
    show (pref 10 X (n + m) * 10 + X.getD (n + m) 0) % 97 ≠ (pref 10 Y (n + m) * 10 + Y.getD (n + m) 0) % 97
    rw [e]
    generalize pref 10 X (n + m) = x at *
    generalize pref 10 Y (n + m) = y at *
    generalize Y.getD (n + m) 0 = z at *
    omega
theorem one_of_checked (d : List Int) (hd : d.length = 80) (h : d = checkedF d) : pref 10 d 80 % 97 = 1 := by
  have h8 : d.getD 78 0 = checkF d / 10 := by
    have this : d.getD 78 0 = (checkedF d).getD 78 0 := congrArg (fun l : List Int => l.getD 78 0) h
    rw [this, checkedF_get d hd, if_pos rfl]
  have h9 : d.getD 79 0 = checkF d % 10 := by
    have this : d.getD 79 0 = (checkedF d).getD 79 0 := congrArg (fun l : List Int => l.getD 79 0) h
    rw [this, checkedF_get d hd, if_neg (by omega), if_pos rfl]
  show ((pref 10 d 78 * 10 + d.getD 78 0) * 10 + d.getD 79 0) % 97 = 1
  rw [h8, h9]
  unfold checkF
  rw [restF_pref]
  generalize pref 10 d 78 = x
  omega
theorem changed_ne (d : List Int) (hd : d.length = 80) (h : d = checkedF d) (hg : Dig d) (j : Nat) (hj : j < 80) (v : Int) (hv : 0 ≤ v ∧ v ≤ 9) (hne : d.getD j 0 ≠ v) : d.set j v ≠ checkedF (d.set j v) := by
  intro hc
  have e1 := one_of_checked d hd h
  have e2 := one_of_checked (d.set j v) (by simp [hd]) hc
  have hp : pref 10 (d.set j v) j = pref 10 d j := pref_congr 10 _ _ j (fun p hp => by rw [getD_set _ _ _ _ (by omega), if_neg (by omega)])
  have hs : (d.set j v).getD j 0 = v := by rw [getD_set _ _ _ _ (by omega), if_pos rfl]
  have hb := hg j
  have := pref_ne (d.set j v) d (j + 1) (by
    show (pref 10 (d.set j v) j * 10 + (d.set j v).getD j 0) % 97 ≠ (pref 10 d j * 10 + d.getD j 0) % 97
    rw [hp, hs]
    generalize pref 10 d j = x at *
    generalize d.getD j 0 = y at *
    omega) (fun p hp => by rw [getD_set _ _ _ _ (by omega), if_neg (by omega)]) (79 - j)
  rw [show j + 1 + (79 - j) = 80 by omega] at this
  omega
theorem swapped_ne (d : List Int) (hd : d.length = 80) (h : d = checkedF d) (hg : Dig d) (j : Nat) (hj : j + 1 < 80) (hne : d.getD j 0 ≠ d.getD (j + 1) 0) : (d.set j (d.getD (j + 1) 0)).set (j + 1) (d.getD j 0) ≠ checkedF ((d.set j (d.getD (j + 1) 0)).set (j + 1) (d.getD j 0)) := by
  intro hc
  have hb := hg j
  have hb1 := hg (j + 1)
  generalize hu : d.getD j 0 = u at *
  generalize hv : d.getD (j + 1) 0 = v at *
  have hget : ∀ p, ((d.set j v).set (j + 1) u).getD p 0 = if p = j + 1 then u else if p = j then v else d.getD p 0 := by
    intro p
    rw [getD_set _ _ _ _ (by simp; omega), getD_set _ _ _ _ (by omega)]
    by_cases e1 : p = j + 1
    · subst e1; simp
    · by_cases e2 : p = j
      · subst e2; simp
      · rw [if_neg (by omega), if_neg (by omega), if_neg e1, if_neg e2]
  have e1 := one_of_checked d hd h
  have e2 := one_of_checked ((d.set j v).set (j + 1) u) (by simp [hd]) hc
  generalize (d.set j v).set (j + 1) u = D at *
  have hp : pref 10 D j = pref 10 d j := pref_congr 10 _ _ j (fun p hp => by rw [hget, if_neg (by omega), if_neg (by omega)])
  have := pref_ne D d (j + 2) (by
    show ((pref 10 D j * 10 + D.getD j 0) * 10 + D.getD (j + 1) 0) % 97 ≠ ((pref 10 d j * 10 + d.getD j 0) * 10 + d.getD (j + 1) 0) % 97
    rw [hp, hget, hget, if_neg (by omega), if_pos rfl, if_pos rfl, hu, hv]
    generalize pref 10 d j = x at *
    omega) (fun p hp => by rw [hget, if_neg (by omega), if_neg (by omega)]) (78 - j)
  rw [show j + 2 + (78 - j) = 80 by omega] at this
  omega
theorem tx_set (d : List Int) (hd : d.length = 80) (j : Nat) (hj : j < 80) (v : Int) : (tx d 80).set (j + j / 5) (48 + v) = tx (d.set j v) 80 := by
  apply list_eq (by rw [List.length_set, tx_length, tx_length])
  intro p hp
  rw [List.length_set, tx_length] at hp
  rw [getD_set _ _ _ _ (by rw [tx_length]; omega)]
  by_cases h5 : p % 6 = 5
  · have e : p = (p / 6 * 5 + 5) + (p / 6 * 5 + 5) / 5 - 1 := by omega
    have hi : p / 6 * 5 + 5 < 80 := by omega
    have ht := tx_blank d (p / 6 * 5 + 5) (by omega) (by omega) 80 hi
    have ht' := tx_blank (d.set j v) (p / 6 * 5 + 5) (by omega) (by omega) 80 hi
    rw [← e] at ht ht'
    rw [ht', if_neg (by omega), ht]
  · have e : p = (p / 6 * 5 + p % 6) + (p / 6 * 5 + p % 6) / 5 := by omega
    have hi : p / 6 * 5 + p % 6 < 80 := by omega
    have ht := tx_digit d (p / 6 * 5 + p % 6) 80 hi
    have ht' := tx_digit (d.set j v) (p / 6 * 5 + p % 6) 80 hi
    rw [← e] at ht ht'
    rw [ht', getD_set _ _ _ _ (by omega), ht]
    by_cases ej : j = p / 6 * 5 + p % 6
    · rw [if_pos (by omega), if_pos ej]
    · rw [if_neg (by omega), if_neg ej]
theorem dig_set {d : List Int} (h : Dig d) (j : Nat) (v : Int) (hv : 0 ≤ v ∧ v ≤ 9) : Dig (d.set j v) := by
  intro p
  by_cases hj : j < d.length
  · rw [getD_set _ _ _ _ hj]
    split
    · exact hv
    · exact h p
  · rw [List.set_eq_of_length_le (by omega)]; exact h p
theorem refused (d : List Int) (hd : d.length = 80) (hg : Dig d) (hne : d ≠ checkedF d) : readV (strOfNums (tx d 80)) = .tuple #[.agg (iv .u8 (zl 32)).toArray, .int .i64 2] := by
  obtain ⟨h1, h2, h3⟩ := read_text d hd hg
  unfold readV
  rw [if_pos ⟨h1, h2⟩, h3, readOf, if_neg hne]
theorem nums_text (d : List Int) (hd : d.length = 80) (hg : Dig d) : nums (strOfNums (tx d 80)) = tx d 80 := by
  have hl : (tx d 80).length = 95 := by rw [tx_length]
  have hs : (strOfNums (tx d 80)).size = 95 := by rw [snum_size, hl]
  have hn : (nums (strOfNums (tx d 80))).length = 95 := by simp [nums, hs]
  apply list_eq (by rw [hn, hl])
  intro p hp
  rw [hn] at hp
  rw [nums_get _ _ (by omega), gb_nums _ _ (by omega)]
  by_cases h5 : p % 6 = 5
  · have e : p = (p / 6 * 5 + 5) + (p / 6 * 5 + 5) / 5 - 1 := by omega
    have ht := tx_blank d (p / 6 * 5 + 5) (by omega) (by omega) 80 (by omega)
    rw [← e] at ht
    omega
  · have e : p = (p / 6 * 5 + p % 6) + (p / 6 * 5 + p % 6) / 5 := by omega
    have ht := tx_digit d (p / 6 * 5 + p % 6) 80 (by omega)
    have := hg (p / 6 * 5 + p % 6)
    rw [← e] at ht
    omega
end Go.Proofs.Ytmnkbdclnaekkaa
