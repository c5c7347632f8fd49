/-
  What was written is read, and what is read is that text, written again: plain numbers and lists.
-/
import Derived.Test.YtmnkbdclnaekkaaMath
namespace Go.Proofs.Ytmnkbdclnaekkaa
open Go Go.RowKit
set_option maxRecDepth 100000
set_option linter.unusedVariables false
set_option linter.unusedSimpArgs false

theorem inD_gin (d : List Int) (b : Int) : ∀ j, inD d b j = gin 10 256 78 d b j
  | 0 => rfl
  | j + 1 => by simp only [inD, gin, inD_gin d b j, show 78 - 1 - j = 77 - j by omega]
theorem outD_gout (k : List Int) : ∀ i, outD k i = gout 10 256 78 80 k i
  | 0 => rfl
  | i + 1 => by simp only [outD, gout, outD_gout k i, inD_gin]
theorem kin_gin (l : List Int) (c : Int) : ∀ j, kin l c j = gin 256 10 32 l c j
  | 0 => rfl
  | j + 1 => by simp only [kin, gin, kin_gin l c j, show 32 - 1 - j = 31 - j by omega]
theorem outK_gout (d : List Int) : ∀ i, outK d i = gout 256 10 32 32 d i
  | 0 => rfl
  | i + 1 => by simp only [outK, gout, outK_gout d i, kin_gin]
theorem fits_iff (d : List Int) : ∀ n, fits d n = true ↔ ∀ i, i < n → (gin 256 10 32 (gout 256 10 32 32 d i) (d.getD i 0) 32).2 = 0
  | 0 => by simp [fits]
  | n + 1 => by
    simp only [fits, Bool.and_eq_true, decide_eq_true_eq, fits_iff d n, kin_gin, outK_gout]
    constructor
    · intro h i hi
      by_cases e : i = n
      · subst e; exact h.2
      · exact h.1 i (by omega)
    · intro h
      exact ⟨fun i hi => h i (by omega), h n (by omega)⟩
theorem list_eq {l m : List Int} (h : l.length = m.length) (e : ∀ p, p < l.length → l.getD p 0 = m.getD p 0) : l = m := by
  apply List.ext_getElem h
  intro i h1 h2
  have := e i h1
  simpa [h1, h2] using this
theorem restF_pref (d : List Int) : ∀ n, restF d n = pref 10 d n % 97
  | 0 => rfl
  | n + 1 => by simp only [restF, pref, restF_pref d n]; omega
theorem restF_congr {d e : List Int} {n : Nat} (h : ∀ p, p < n → d.getD p 0 = e.getD p 0) : restF d n = restF e n := by
  rw [restF_pref, restF_pref, pref_congr 10 d e n h]
theorem checkedF_get (d : List Int) (hd : d.length = 80) (p : Nat) : (checkedF d).getD p 0 = if p = 78 then checkF d / 10 else if p = 79 then checkF d % 10 else d.getD p 0 := by
  unfold checkedF
  rw [getD_set _ _ _ _ (by rw [List.length_set]; omega), getD_set _ _ _ _ (by omega)]
  by_cases e1 : p = 78
  · subst e1; simp
  · by_cases e2 : p = 79
    · subst e2; simp
    · rw [if_neg (by omega), if_neg (by omega), if_neg e1, if_neg e2]
theorem checkF_congr {d e : List Int} (h : ∀ p, p < 78 → d.getD p 0 = e.getD p 0) : checkF d = checkF e := by
  unfold checkF; rw [restF_congr h]
theorem checked_idem (d : List Int) (hd : d.length = 80) : checkedF (checkedF d) = checkedF d := by
  have hc : checkF (checkedF d) = checkF d := checkF_congr (fun p hp => by rw [checkedF_get d hd, if_neg (by omega), if_neg (by omega)])
  apply list_eq (by simp [checkedF_len])
  intro p _
  rw [checkedF_get _ (by rw [checkedF_len]; exact hd), checkedF_get d hd, hc]
  split
  · rfl
  · split <;> rfl
theorem pow_fits : (256 : Int) ^ 32 < 10 ^ 78 := by decide +kernel
/-- The digits of a key: their number. -/
theorem digits_val (k : List Int) (hk : k.length = 32) (hb : Byte k) : pref 10 (outD k 32) 78 = pref 256 k 32 ∧ 0 ≤ pref 256 k 32 ∧ pref 256 k 32 < 256 ^ 32 := by
  have hbd := low_bd 256 (by omega) 32 k 32 (Nat.le_refl _) (fun p _ => ⟨(hb p).1, by have := (hb p).2; omega⟩)
  rw [low_all] at hbd
  have hm := pref_mono 256 (by omega) k (fun p => (hb p).1) 32
  have hf := gout_fits 10 256 (by omega) 78 80 (by omega) k 32 (fun i hi => ⟨(hm i hi).1, by
    have := (hm i hi).2
    have h2 := pow_fits
    generalize (256 : Int) ^ 32 = P at *
    generalize (10 : Int) ^ 78 = R at *
    omega⟩)
  have hv := gout_val 10 256 (by omega) 78 80 (by omega) k 32 hf
  rw [low_all, ← outD_gout] at hv
  exact ⟨hv, hbd⟩
theorem back_key (k : List Int) (hk : k.length = 32) (hb : Byte k) : fits (digitsF k) 78 = true ∧ outK (digitsF k) 78 = k := by
  obtain ⟨h1, h2, h3⟩ := digits_val k hk hb
  obtain ⟨o1, o2⟩ := outD_spec k hb 32
  have hd : ∀ p, p < 78 → (digitsF k).getD p 0 = (outD k 32).getD p 0 := fun p hp => by
    unfold digitsF
    rw [checkedF_get _ o2, if_neg (by omega), if_neg (by omega)]
  have hdig : Dig (digitsF k) := checkedF_dig o1
  have hpv : pref 10 (digitsF k) 78 = pref 256 k 32 := by rw [pref_congr 10 _ _ 78 hd, h1]
  have hm := pref_mono 10 (by omega) (digitsF k) (fun p => (hdig p).1) 78
  have hf := gout_fits 256 10 (by omega) 32 32 (by omega) (digitsF k) 78 (fun i hi => ⟨(hm i hi).1, by
    have := (hm i hi).2
    rw [hpv] at this
    generalize (256 : Int) ^ 32 = P at *
    omega⟩)
  have hv := gout_val 256 10 (by omega) 32 32 (by omega) (digitsF k) 78 hf
  refine ⟨(fits_iff _ _).2 hf, ?_⟩
  obtain ⟨g1, g2, g3⟩ := gout_spec 256 10 (by omega) 32 32 (by omega) (digitsF k) 78
  rw [outK_gout]
  apply list_eq (by rw [g1, hk])
  intro p hp
  rw [g1] at hp
  refine low_inj 256 (by omega) 32 _ _ g3 (fun p _ => ⟨(hb p).1, by have := (hb p).2; omega⟩) 32 (Nat.le_refl _) ?_ p (by omega) hp
  rw [hv, hpv, low_all]
theorem back_digits (d : List Int) (hd : d.length = 80) (hdig : Dig d) (hc : d = checkedF d) (hf : fits d 78 = true) : digitsF (outK d 78) = d := by
  obtain ⟨k1, k2⟩ := outK_spec d hdig.byte 78
  obtain ⟨h1, h2, h3⟩ := digits_val (outK d 78) k2 k1
  have hv := gout_val 256 10 (by omega) 32 32 (by omega) d 78 ((fits_iff _ _).1 hf)
  rw [low_all, ← outK_gout] at hv
  rw [hv] at h1
  obtain ⟨o1, o2⟩ := outD_spec (outK d 78) k1 32
  have hpos : ∀ p, p < 78 → (outD (outK d 78) 32).getD p 0 = d.getD p 0 := by
    intro p hp
    refine low_inj 10 (by omega) 78 _ _ (fun p _ => ⟨(o1 p).1, by have := (o1 p).2; omega⟩) (fun p _ => ⟨(hdig p).1, by have := (hdig p).2; omega⟩) 78 (Nat.le_refl _) ?_ p (by omega) hp
    rw [low_all, low_all, h1]
  unfold digitsF
  apply list_eq (by rw [checkedF_len, o2, hd])
  intro p _
  have e0 : d.getD p 0 = (checkedF d).getD p 0 := congrArg (fun l : List Int => l.getD p 0) hc
  rw [e0, checkedF_get _ o2, checkedF_get _ hd, checkF_congr hpos]
  split
  · rfl
  · split
    · rfl
    · by_cases hp : p < 78
      · exact hpos p hp
      · have e1 : (outD (outK d 78) 32).getD p 0 = 0 := by rw [List.getD_eq_getElem?_getD, List.getElem?_eq_none (by omega)]; rfl
        have e2 : d.getD p 0 = 0 := by rw [List.getD_eq_getElem?_getD, List.getElem?_eq_none (by omega)]; rfl
        rw [e1, e2]

theorem tx_length (d : List Int) : ∀ n, (tx d n).length = n + (n - 1) / 5
  | 0 => rfl
  | n + 1 => by
    simp only [tx, mid, List.length_append, List.length_cons, List.length_nil]
    split
    · rw [List.length_append, tx_length d n]; simp only [List.length_cons, List.length_nil]; omega
    · rw [tx_length d n]; omega
theorem mid_length (d : List Int) (n : Nat) : (mid (tx d n) n).length = n + n / 5 := by
  unfold mid
  split
  · rw [List.length_append, tx_length]; simp only [List.length_cons, List.length_nil]; omega
  · rw [tx_length]; omega
theorem getD_app_left (l r : List Int) (p : Nat) (h : p < l.length) : (l ++ r).getD p 0 = l.getD p 0 := by
  simp only [List.getD_eq_getElem?_getD, List.getElem?_append_left h]
theorem getD_app_at (l : List Int) (x : Int) : (l ++ [x]).getD l.length 0 = x := by
  simp [List.getD_eq_getElem?_getD]
theorem tx_digit (d : List Int) (i : Nat) : ∀ n, i < n → (tx d n).getD (i + i / 5) 0 = 48 + d.getD i 0
  | 0, h => by omega
  | n + 1, h => by
    have hm := mid_length d n
    by_cases e : i = n
    · subst e
      rw [tx, ← hm, getD_app_at]
    · rw [tx, getD_app_left _ _ _ (by rw [hm]; omega)]
      have ih := tx_digit d i n (by omega)
      unfold mid
      split
      · rw [getD_app_left _ _ _ (by rw [tx_length]; omega)]; exact ih
      · exact ih
theorem tx_blank (d : List Int) (i : Nat) (h0 : 0 < i) (h5 : i % 5 = 0) : ∀ n, i < n → (tx d n).getD (i + i / 5 - 1) 0 = 32
  | 0, h => by omega
  | n + 1, h => by
    have hm := mid_length d n
    by_cases e : i = n
    · subst e
      rw [tx, getD_app_left _ _ _ (by rw [hm]; omega)]
      have hl := tx_length d i
      unfold mid
      rw [if_pos ⟨h0, h5⟩, show i + i / 5 - 1 = (tx d i).length by omega, getD_app_at]
    · rw [tx, getD_app_left _ _ _ (by rw [hm]; omega)]
      have ih := tx_blank d i h0 h5 n (by omega)
      unfold mid
      split
      · rw [getD_app_left _ _ _ (by rw [tx_length]; omega)]; exact ih
      · exact ih
theorem snum_size (l : List Int) : (strOfNums l).size = l.length := by simp [strOfNums, ByteArray.size]
theorem gb_nums (l : List Int) (i : Nat) (hi : i < l.length) (hb : 0 ≤ l.getD i 0 ∧ l.getD i 0 ≤ 255) : gb (strOfNums l) i = l.getD i 0 := by
  unfold gb strOfNums
  have e : l.getD i 0 = l[i] := by simp [hi]
  rw [e] at hb ⊢
  simp [hi]
  omega
theorem nums_get (s : ByteArray) (i : Nat) (hi : i < s.size) : (nums s).getD i 0 = gb s i := by
  have h' : i < s.data.toList.length := by simpa using hi
  unfold gb nums
  rw [List.getD_eq_getElem?_getD, List.getD_eq_getElem?_getD, List.getElem?_map, List.getElem?_eq_getElem h']
  rfl
theorem of_nums (s : ByteArray) : strOfNums (nums s) = s := by
  have h : (nums s).map (fun n => UInt8.ofNat n.toNat) = s.data.toList := by
    unfold nums
    rw [List.map_map]
    exact (List.map_congr_left fun b _ => by simp).trans (List.map_id _)
  unfold strOfNums
  rw [h]
theorem rd_get (s : ByteArray) (i : Nat) : ∀ n, n ≤ 80 → i < n → (rd s n).getD i 0 = gb s (i + i / 5) - 48
  | 0, _, h => by omega
  | n + 1, hn, h => by
    rw [rd, getD_set _ _ _ _ (by rw [rd_len]; omega)]
    by_cases e : n = i
    · subst e; rw [if_pos rfl]
    · rw [if_neg e]; exact rd_get s i n (by omega) (by omega)
theorem allOk_iff (s : ByteArray) : ∀ n, allOk s n = true ↔ ∀ i, i < n → okAt s i = true
  | 0 => by simp [allOk]
  | n + 1 => by
    simp only [allOk, Bool.and_eq_true, allOk_iff s n]
    constructor
    · intro h i hi
      by_cases e : i = n
      · subst e; exact h.2
      · exact h.1 i (by omega)
    · intro h
      exact ⟨fun i hi => h i (by omega), h n (by omega)⟩
theorem read_text (d : List Int) (hd : d.length = 80) (hdig : Dig d) : (strOfNums (tx d 80)).size = 95 ∧ allOk (strOfNums (tx d 80)) 80 = true ∧ rd (strOfNums (tx d 80)) 80 = d := by
  have hl : (tx d 80).length = 95 := by rw [tx_length]
  have hg : ∀ i, i < 80 → gb (strOfNums (tx d 80)) (i + i / 5) = 48 + d.getD i 0 := by
    intro i hi
    have ht := tx_digit d i 80 hi
    have := hdig i
    rw [gb_nums _ _ (by omega) (by rw [ht]; omega), ht]
  refine ⟨by rw [snum_size, hl], (allOk_iff _ _).2 (fun i hi => ?_), ?_⟩
  · have h1 := hg i hi
    have := hdig i
    simp only [okAt, Bool.and_eq_true, decide_eq_true_eq, Bool.not_eq_true', Bool.and_eq_false_iff, decide_eq_false_iff_not]
    refine ⟨⟨?_, by omega⟩, by omega⟩
    by_cases h0 : 0 < i
    · by_cases h5 : i % 5 = 0
      · right
        have ht := tx_blank d i h0 h5 80 hi
        rw [gb_nums _ _ (by omega) (by rw [ht]; omega), ht]
        simp
      · left; right; exact h5
    · left; left; exact h0
  · apply list_eq (by rw [rd_len, hd])
    intro p hp
    rw [rd_len] at hp
    rw [rd_get _ _ 80 (Nat.le_refl _) hp, hg p hp]
    omega
theorem text_read (s : ByteArray) (hs : s.size = 95) (hok : allOk s 80 = true) : strOfNums (tx (rd s 80) 80) = s := by
  rw [allOk_iff] at hok
  have h : tx (rd s 80) 80 = nums s := by
    apply list_eq (by rw [tx_length]; simp [nums, hs])
    intro p hp
    have hp95 : p < 95 := by rw [tx_length] at hp; omega
    rw [nums_get s p (by omega)]
    by_cases h5 : p % 6 = 5
    · have e : p = (p / 6 * 5 + 5) + (p / 6 * 5 + 5) / 5 - 1 := by omega
      have hi : p / 6 * 5 + 5 < 80 := by omega
      have ht := tx_blank (rd s 80) (p / 6 * 5 + 5) (by omega) (by omega) 80 hi
      rw [← e] at ht
      rw [ht]
      have ho := hok _ hi
      simp only [okAt, Bool.and_eq_true, decide_eq_true_eq, Bool.not_eq_true', Bool.and_eq_false_iff, decide_eq_false_iff_not] at ho
      rw [← e] at ho
      rcases ho.1.1 with (h | h) | h
      · omega
      · omega
      · exact (Classical.not_not.1 h).symm
    · have e : p = (p / 6 * 5 + p % 6) + (p / 6 * 5 + p % 6) / 5 := by omega
      have hi : p / 6 * 5 + p % 6 < 80 := by omega
      have ht := tx_digit (rd s 80) (p / 6 * 5 + p % 6) 80 hi
      have hr := rd_get s (p / 6 * 5 + p % 6) 80 (Nat.le_refl _) hi
      rw [← e] at ht hr
      rw [ht, hr]
      omega
  rw [h, of_nums]
end Go.Proofs.Ytmnkbdclnaekkaa
