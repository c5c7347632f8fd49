/-
  Numbers as bytes and back: by numbers alone.
  Texts and lists as bytes and back: by numbers alone.
-/
import Derived.Test.YtpdijcaikjobiaaRdD
namespace Go.Proofs.Ytpdijcaikjobiaa
section
open Go Go.RowKit
set_option linter.unusedVariables false
set_option linter.unusedSimpArgs false
theorem div_step (v k : Nat) : v / 128 ^ (k + 2) = v / 128 ^ (k + 1) / 128 := by
  rw [Nat.div_div_eq_div_mul, ← Nat.pow_succ]
theorem rdN_one : ∀ (g n : Nat) (l : List Int) (v : Nat) (l' : List Int), n ≠ 0 → By l → g ≤ 4 → rdN g n l = (v, l', 0) → ∃ k, k < g ∧ v / 128 ^ (k + 1) = n ∧ l = lowB v k ++ l'
  | 0, n, l, v, l', _, _, _, h => by simp [rdN] at h
  | g + 1, n, [], v, l', _, _, _, h => by simp [rdN] at h
  | g + 1, n, b :: l, v, l', hn, hb, hg, h => by
    have hb0 := hb b (by simp)
    have hbl : By l := fun x hx => hb x (by simp [hx])
    unfold rdN at h
    split at h
    · simp at h
    split at h
    · rename_i hlt
      simp only [Prod.mk.injEq] at h
      obtain ⟨rfl, rfl, _⟩ := h
      obtain ⟨m, rfl⟩ : ∃ m : Nat, b = (m : Nat) := ⟨b.toNat, by omega⟩
      simp only [Int.toNat_natCast]
      refine ⟨0, by omega, by omega, ?_⟩
      have : (n * 128 + m % 128) % 128 = m := by omega
      simp [lowB, hiG, this]
    · rename_i hge
      obtain ⟨m, rfl⟩ : ∃ m : Nat, b = (m : Nat) := ⟨b.toNat, by omega⟩
      simp only [Int.toNat_natCast] at h
      obtain ⟨k, hk, hv, rfl⟩ := rdN_one g _ l v l' (by omega) hbl (by omega) h
      refine ⟨k + 1, by omega, by rw [div_step, hv]; omega, ?_⟩
      rw [lowB_next (by rw [hv]; omega), hv, List.cons_append]
      congr 1
      omega
theorem numB_low (n : Nat) : numB n = lowB n 4 := rfl
theorem numB_cut {n k : Nat} (h : n / 128 ^ (k + 1) = 0) (hk : k ≤ 4) : numB n = lowB n k := by
  rw [numB_low, lowB, lowB, hiG_cut h hk]
theorem rdNum_one {l l' : List Int} {v : Nat} (hb : By l) (h : rdNum l = (v, l', 0)) : l = numB v ++ l' := by
  unfold rdNum at h
  split at h
  case isFalse => rename_i e; simp only [Prod.mk.injEq] at h; exact absurd h.2.2 e
  cases l with
  | nil => simp [rdN] at h
  | cons b l =>
    have hb0 := hb b (by simp)
    have hbl : By l := fun x hx => hb x (by simp [hx])
    unfold rdN at h
    split at h
    · simp at h
    rename_i hno
    have hb128 : b ≠ 128 := fun h => hno (.inl ⟨rfl, h⟩)
    split at h
    · rename_i hlt
      simp only [Prod.mk.injEq] at h
      obtain ⟨rfl, rfl, _⟩ := h
      obtain ⟨m, rfl⟩ : ∃ m : Nat, b = (m : Nat) := ⟨b.toNat, by omega⟩
      simp only [Int.toNat_natCast]
      have e : 0 * 128 + m % 128 = m := by omega
      rw [e, numB_cut (n := m) (k := 0) (by omega) (by omega)]
      have : m % 128 = m := by omega
      simp [lowB, hiG, this]
    · rename_i hge
      obtain ⟨m, rfl⟩ : ∃ m : Nat, b = (m : Nat) := ⟨b.toNat, by omega⟩
      simp only [Int.toNat_natCast] at h
      clear hno
      have e : 0 * 128 + m % 128 = m % 128 := by omega
      rw [e] at h
      have hne : m % 128 ≠ 0 := by omega
      obtain ⟨k, hk, hv, rfl⟩ := rdN_one 4 (m % 128) l v l' hne hbl (by omega) h
      rw [numB_cut (n := v) (k := k + 1) (by rw [div_step, hv]; omega) (by omega), lowB_next (n := v) (k := k) (by rw [hv]; omega), hv, List.cons_append]
      congr 1
      omega
/-- The groups below those that are read. -/
theorem rdN_low : ∀ (k g v : Nat) (r : List Int), v ≤ 4294967295 → k < g → g ≤ 4 → (k ≠ 0 → v / 128 ^ (k + 1) ≠ 0) → rdN g (v / 128 ^ (k + 1)) (lowB v k ++ r) = (v, r, 0)
  | 0, 0, v, r, _, h, _, _ => by omega
  | 0, g + 1, v, r, hv, _, hg, _ => by
    simp only [lowB, hiG, List.nil_append, List.cons_append]
    unfold rdN
    simp only [Int.toNat_natCast]
    have e : v / 128 ^ (0 + 1) * 128 + v % 128 % 128 = v := by omega
    rw [if_neg (by rw [e]; omega), if_pos (by omega), e]
  | k + 1, 0, v, r, _, h, _, _ => by omega
  | k + 1, g + 1, v, r, hv, hk, hg, hne => by
    have h1 := hne (by omega)
    have h2 : v / 128 ^ (k + 1) ≠ 0 := fun h => h1 (by rw [div_step, h])
    rw [lowB_next h2, List.cons_append, div_step]
    have hle : v / 128 ^ (k + 1) ≤ v := Nat.div_le_self _ _
    generalize hq : v / 128 ^ (k + 1) = q at *
    unfold rdN
    have e0 : ((((q % 128 : Nat) : Int) + 128).toNat) % 128 = q % 128 := by omega
    have e : q / 128 * 128 + ((((q % 128 : Nat) : Int) + 128).toNat) % 128 = q := by rw [e0]; omega
    rw [if_neg (by rw [e]; omega), if_neg (by omega), e, ← hq]
    exact rdN_low k g v r hv (by omega) (by omega) (fun _ => by rw [hq]; exact h2)
theorem top_group {v : Nat} (hv : v ≤ 4294967295) : v < 128 ∨ ∃ k, k < 4 ∧ v / 128 ^ (k + 1) ≠ 0 ∧ v / 128 ^ (k + 2) = 0 := by
  by_cases h0 : v < 128
  · exact .inl h0
  right
  by_cases h1 : v / 128 ^ 2 = 0
  · exact ⟨0, by omega, by omega, h1⟩
  by_cases h2 : v / 128 ^ 3 = 0
  · exact ⟨1, by omega, h1, h2⟩
  by_cases h3 : v / 128 ^ 4 = 0
  · exact ⟨2, by omega, h2, h3⟩
  · exact ⟨3, by omega, h3, by omega⟩
theorem rdNum_back {v : Nat} (hv : v ≤ 4294967295) (r : List Int) : rdNum (numB v ++ r) = (v, r, 0) := by
  have : rdN 5 0 (numB v ++ r) = (v, r, 0) := by
    rcases top_group hv with h0 | ⟨k, hk, h1, h2⟩
    · rw [numB_cut (n := v) (k := 0) (by omega) (by omega)]
      simp only [lowB, hiG, List.nil_append, List.cons_append]
      unfold rdN
      simp only [Int.toNat_natCast]
      have e : 0 * 128 + v % 128 % 128 = v := by omega
      rw [if_neg (by rw [e]; omega), if_pos (by omega), e]
    · rw [numB_cut (n := v) (k := k + 1) h2 (by omega), lowB_next h1, List.cons_append]
      rw [div_step] at h2
      have hlow := rdN_low k 4 v r hv (by omega) (by omega) (fun _ => h1)
      have hle : v / 128 ^ (k + 1) ≤ v := Nat.div_le_self _ _
      generalize v / 128 ^ (k + 1) = q at *
      unfold rdN
      have e : 0 * 128 + ((((q % 128 : Nat) : Int) + 128).toNat) % 128 = q := by omega
      rw [if_neg (by rw [e]; omega), if_neg (by omega), e]
      exact hlow
  unfold rdNum
  rw [this]
  rfl
/-- What is cut off lacks bytes. -/
theorem rdN_cutoff : ∀ (k g v j : Nat), v ≤ 4294967295 → k < g → g ≤ 4 → (k ≠ 0 → v / 128 ^ (k + 1) ≠ 0) → j < (lowB v k).length → rdN g (v / 128 ^ (k + 1)) ((lowB v k).take j) = (0, [], 3)
  | 0, 0, v, j, _, h, _, _, _ => by omega
  | 0, g + 1, v, j, hv, _, hg, _, hj => by
    simp only [lowB, hiG, List.nil_append, List.length_singleton] at hj
    obtain rfl : j = 0 := by omega
    rfl
  | k + 1, 0, v, j, _, h, _, _, _ => by omega
  | k + 1, g + 1, v, j, hv, hk, hg, hne, hj => by
    have h1 := hne (by omega)
    have h2 : v / 128 ^ (k + 1) ≠ 0 := fun h => h1 (by rw [div_step, h])
    rw [lowB_next h2, List.length_cons] at hj
    cases j with
    | zero => rfl
    | succ j =>
      rw [lowB_next h2, List.take_succ_cons, div_step]
      have hle : v / 128 ^ (k + 1) ≤ v := Nat.div_le_self _ _
      generalize hq : v / 128 ^ (k + 1) = q at *
      unfold rdN
      have e : q / 128 * 128 + ((((q % 128 : Nat) : Int) + 128).toNat) % 128 = q := by omega
      rw [if_neg (by rw [e]; omega), if_neg (by omega), e, ← hq]
      exact rdN_cutoff k g v j hv (by omega) (by omega) (fun _ => by rw [hq]; exact h2) (by omega)
theorem rdNum_cut {v j : Nat} (hv : v ≤ 4294967295) (hj : j < (numB v).length) : rdNum ((numB v).take j) = (0, (numB v).take j, 3) := by
  have : (rdN 5 0 ((numB v).take j)).2.2 = 3 := by
    cases j with
    | zero => rfl
    | succ j =>
      rcases top_group hv with h0 | ⟨k, hk, h1, h2⟩
      · rw [numB_cut (n := v) (k := 0) (by omega) (by omega)] at hj
        simp [lowB, hiG] at hj
      · rw [numB_cut (n := v) (k := k + 1) h2 (by omega), lowB_next h1, List.length_cons] at hj
        rw [numB_cut (n := v) (k := k + 1) h2 (by omega), lowB_next h1, List.take_succ_cons]
        rw [div_step] at h2
        have hlow := rdN_cutoff k 4 v j hv (by omega) (by omega) (fun _ => h1) (by omega)
        have hle : v / 128 ^ (k + 1) ≤ v := Nat.div_le_self _ _
        generalize v / 128 ^ (k + 1) = q at *
        unfold rdN
        have e : 0 * 128 + ((((q % 128 : Nat) : Int) + 128).toNat) % 128 = q := by omega
        rw [if_neg (by rw [e]; omega), if_neg (by omega), e, hlow]
  unfold rdNum
  rw [this]
  rfl
end

section
open Go Go.RowKit
set_option linter.unusedVariables false
set_option linter.unusedSimpArgs false
theorem rdCount_back {n : Nat} {most : Int} (h1 : (n : Int) ≤ max most 0) (h2 : n ≤ 4294967295) (r : List Int) : rdCount most (numB n ++ r) = (n, r, 0) := by
  unfold rdCount
  rw [rdNum_back h2]
  simp only [ne_eq, not_true_eq_false, if_false]
  rw [if_neg (by omega)]
theorem rdCount_one {most : Int} {n : Nat} {l l' : List Int} (hb : By l) (h : rdCount most l = (n, l', 0)) : l = numB n ++ l' ∧ (n : Int) ≤ max most 0 := by
  unfold rdCount at h
  split at h
  · rename_i e; simp only [Prod.mk.injEq] at h; exact absurd h.2.2 e
  split at h
  · simp at h
  · rename_i e
    rw [h] at e
    exact ⟨rdNum_one hb h, by simp only at e; omega⟩
theorem rdCount_cut {most : Int} {n j : Nat} (h2 : n ≤ 4294967295) (hj : j < (numB n).length) : (rdCount most ((numB n).take j)).2.2 = 3 := by
  unfold rdCount
  rw [rdNum_cut h2 hj]
  rfl
theorem numB_pos (n : Nat) : 0 < (numB n).length := by simp [numB]
theorem rdText_back {s : ByteArray} {most : Int} (h1 : (s.size : Int) ≤ most) (h2 : s.size ≤ 4294967295) (r : List Int) : rdText most (textB s ++ r) = (nums s, r, 0) := by
  unfold rdText textB
  rw [List.append_assoc, rdCount_back (by omega) h2]
  have := nums_size s
  simp only [ne_eq, not_true_eq_false, if_false]
  rw [if_neg (by rw [List.length_append]; omega), ← this, List.take_left, List.drop_left]
theorem rdText_one {most : Int} {t l l' : List Int} (hb : By l) (h : rdText most l = (t, l', 0)) : l = numB t.length ++ t ++ l' ∧ By t ∧ (t.length : Int) ≤ max most 0 := by
  unfold rdText at h
  split at h
  · rename_i e; simp only [Prod.mk.injEq] at h; exact absurd h.2.2 e
  split at h
  · simp at h
  · rename_i e1 e2
    simp only [Prod.mk.injEq, and_true] at h
    obtain ⟨h3, h4⟩ := h
    have e : rdCount most l = ((rdCount most l).1, (rdCount most l).2.1, 0) := by
      have : (rdCount most l).2.2 = 0 := by simpa using e1
      rw [← this]
    obtain ⟨h5, h6⟩ := rdCount_one hb e
    have hby := (rdCount_by (most := most) hb).1
    generalize (rdCount most l).1 = n at *
    generalize (rdCount most l).2.1 = r at *
    have hl : t.length = n := by rw [← h3, List.length_take]; omega
    refine ⟨?_, ?_, by rw [hl]; exact h6⟩
    · rw [hl, h5, List.append_assoc, ← h3, ← h4, List.take_append_drop]
    · rw [← h3]; exact fun x hx => hby x (List.mem_of_mem_take hx)
theorem rdText_cut {s : ByteArray} {most : Int} {j : Nat} (h1 : (s.size : Int) ≤ most) (h2 : s.size ≤ 4294967295) (hj : j < (textB s).length) : (rdText most ((textB s).take j)).2.2 = 3 := by
  unfold textB at hj ⊢
  have hn := nums_size s
  rw [List.length_append] at hj
  rcases Nat.lt_or_ge j (numB s.size).length with h | h
  · rw [List.take_append_of_le_length (by omega)]
    unfold rdText
    rw [rdCount_cut h2 h]
    rfl
  · rw [List.take_append, List.take_of_length_le (l := numB s.size) h]
    unfold rdText
    rw [rdCount_back (by omega) h2]
    simp only [ne_eq, not_true_eq_false, if_false]
    rw [if_pos (by rw [List.length_take]; omega)]
/-- Rows one behind the other, there and back. -/
theorem manyN_back {β : Type} {one : List Int → β × List Int × Int} {f : β → List Int} {R : β → Prop} (hone : ∀ x r, R x → one (f x ++ r) = (x, r, 0)) : ∀ (xs : List β) (r : List Int), (∀ x ∈ xs, R x) → rdManyN one xs.length (xs.flatMap f ++ r) = (xs, r, 0)
  | [], r, _ => by simp [rdManyN]
  | x :: xs, r, h => by
    rw [List.flatMap_cons, List.append_assoc, List.length_cons, rdManyN, hone x _ (h x (by simp)), manyN_back hone xs r (fun y hy => h y (by simp [hy]))]
    simp
theorem manyN_one {β : Type} {one : List Int → β × List Int × Int} {f : β → List Int} {R : β → Prop} (hone : ∀ l x l', By l → one l = (x, l', 0) → l = f x ++ l' ∧ By l' ∧ R x) : ∀ (n : Nat) (l : List Int) (xs : List β) (l' : List Int), By l → rdManyN one n l = (xs, l', 0) → l = xs.flatMap f ++ l' ∧ xs.length = n ∧ ∀ x ∈ xs, R x
  | 0, l, xs, l', _, h => by
    simp only [rdManyN, Prod.mk.injEq, and_true] at h
    obtain ⟨rfl, rfl⟩ := h
    simp
  | n + 1, l, xs, l', hb, h => by
    rw [rdManyN] at h
    split at h
    · rename_i e; simp only [Prod.mk.injEq] at h; exact absurd h.2.2 e
    split at h
    · rename_i e; simp only [Prod.mk.injEq] at h; exact absurd h.2.2 e
    · rename_i e1 e2
      simp only [Prod.mk.injEq, and_true] at h
      obtain ⟨h3, h4⟩ := h
      obtain ⟨x, l2, e, ho⟩ : ∃ x l2 e, one l = (x, l2, e) := ⟨_, _, _, rfl⟩
      rw [ho] at e1 e2 h3 h4
      simp only at e1 e2 h3 h4
      obtain rfl : e = 0 := by simpa using e1
      obtain ⟨k1, k2, k3⟩ := hone l x l2 hb ho
      obtain ⟨ys, l3, e3, hm⟩ : ∃ ys l3 e3, rdManyN one n l2 = (ys, l3, e3) := ⟨_, _, _, rfl⟩
      rw [hm] at e2 h3 h4
      simp only at e2 h3 h4
      obtain rfl : e3 = 0 := by simpa using e2
      subst h3 h4
      obtain ⟨q1, q2, q3⟩ := manyN_one hone n l2 ys l3 k2 hm
      refine ⟨by rw [k1, q1, List.flatMap_cons, List.append_assoc], by simp [q2], fun y hy => ?_⟩
      rcases List.mem_cons.1 hy with rfl | hy
      · exact k3
      · exact q3 y hy
theorem manyN_cut {β : Type} {one : List Int → β × List Int × Int} {f : β → List Int} {R : β → Prop} (hone : ∀ x r, R x → one (f x ++ r) = (x, r, 0)) (hcut : ∀ x j, R x → j < (f x).length → (one ((f x).take j)).2.2 = 3) : ∀ (xs : List β) (j : Nat), (∀ x ∈ xs, R x) → j < (xs.flatMap f).length → (rdManyN one xs.length ((xs.flatMap f).take j)).2.2 = 3
  | [], j, _, hj => by simp at hj
  | x :: xs, j, h, hj => by
    rw [List.flatMap_cons, List.length_append] at hj
    rw [List.flatMap_cons, List.length_cons, rdManyN]
    rcases Nat.lt_or_ge j (f x).length with h1 | h1
    · rw [List.take_append_of_le_length (by omega), hcut x j (h x (by simp)) h1]
      rfl
    · rw [List.take_append, List.take_of_length_le (l := f x) h1, hone x _ (h x (by simp))]
      have := manyN_cut hone hcut xs (j - (f x).length) (fun y hy => h y (by simp [hy])) (by omega)
      simp only [ne_eq, not_true_eq_false, if_false]
      rw [this]
      rfl
theorem many_back {β : Type} {one : List Int → β × List Int × Int} {f : β → List Int} {R : β → Prop} (hone : ∀ x r, R x → one (f x ++ r) = (x, r, 0)) {xs : List β} {most : Int} (hR : ∀ x ∈ xs, R x) (h1 : (xs.length : Int) ≤ max most 0) (h2 : xs.length ≤ 4294967295) (r : List Int) : rdMany one most (numB xs.length ++ xs.flatMap f ++ r) = (xs, r, 0) := by
  unfold rdMany
  rw [List.append_assoc, rdCount_back h1 h2, manyN_back hone xs r hR]
  simp
theorem many_one {β : Type} {one : List Int → β × List Int × Int} {f : β → List Int} {R : β → Prop} (hone : ∀ l x l', By l → one l = (x, l', 0) → l = f x ++ l' ∧ By l' ∧ R x) {most : Int} {l l' : List Int} {xs : List β} (hb : By l) (h : rdMany one most l = (xs, l', 0)) : l = numB xs.length ++ xs.flatMap f ++ l' ∧ (xs.length : Int) ≤ max most 0 ∧ ∀ x ∈ xs, R x := by
  unfold rdMany at h
  split at h
  · rename_i e; simp only [Prod.mk.injEq] at h; exact absurd h.2.2 e
  split at h
  · rename_i e; simp only [Prod.mk.injEq] at h; exact absurd h.2.2 e
  · rename_i e1 e2
    have e : rdCount most l = ((rdCount most l).1, (rdCount most l).2.1, 0) := by
      have : (rdCount most l).2.2 = 0 := by simpa using e1
      rw [← this]
    obtain ⟨h5, h6⟩ := rdCount_one hb e
    have hby := (rdCount_by (most := most) hb).1
    generalize (rdCount most l).1 = n at *
    generalize (rdCount most l).2.1 = r at *
    obtain ⟨q1, q2, q3⟩ := manyN_one hone n r xs l' hby h
    exact ⟨by rw [q2, h5, q1, List.append_assoc], by rw [q2]; exact h6, q3⟩
theorem many_cut {β : Type} {one : List Int → β × List Int × Int} {f : β → List Int} {R : β → Prop} (hone : ∀ x r, R x → one (f x ++ r) = (x, r, 0)) (hcut : ∀ x j, R x → j < (f x).length → (one ((f x).take j)).2.2 = 3) {xs : List β} {most : Int} {j : Nat} (hR : ∀ x ∈ xs, R x) (h1 : (xs.length : Int) ≤ max most 0) (h2 : xs.length ≤ 4294967295) (hj : j < (numB xs.length ++ xs.flatMap f).length) :
    (rdMany one most ((numB xs.length ++ xs.flatMap f).take j)).2.2 = 3 := by
  rw [List.length_append] at hj
  rcases Nat.lt_or_ge j (numB xs.length).length with h | h
  · rw [List.take_append_of_le_length (by omega)]
    unfold rdMany
    rw [rdCount_cut h2 h]
    rfl
  · rw [List.take_append, List.take_of_length_le (l := numB xs.length) h]
    unfold rdMany
    rw [rdCount_back h1 h2, manyN_cut hone hcut xs _ hR (by omega)]
    rfl
theorem num_one : ∀ (x : Nat) (r : List Int), x ≤ 4294967295 → rdNum (numB x ++ r) = (x, r, 0) := fun x r h => rdNum_back h r
theorem num_of : ∀ (l : List Int) (x : Nat) (l' : List Int), By l → rdNum l = (x, l', 0) → l = numB x ++ l' ∧ By l' ∧ x ≤ 4294967295 := fun l x l' hb h => by
  have h1 := rdNum_by hb
  have h2 := rdNum_val (l := l)
  rw [h] at h1 h2
  exact ⟨rdNum_one hb h, h1.1, h2⟩
theorem num_cut : ∀ (x : Nat) (j : Nat), x ≤ 4294967295 → j < (numB x).length → (rdNum ((numB x).take j)).2.2 = 3 := fun x j h hj => by rw [rdNum_cut h hj]
theorem key_one : ∀ (x : List Int) (r : List Int), x.length = 32 → rdKey (id x ++ r) = (x, r, 0) := fun x r h => by
  unfold rdKey
  rw [if_neg (by rw [List.length_append, id]; omega)]
  simp only [id]
  rw [← h, List.take_left, List.drop_left]
theorem key_of : ∀ (l : List Int) (x : List Int) (l' : List Int), By l → rdKey l = (x, l', 0) → l = id x ++ l' ∧ By l' ∧ (x.length = 32 ∧ By x) := fun l x l' hb h => by
  obtain ⟨h1, h2, h3, h4, h5⟩ := rdKey_ok hb h
  exact ⟨h5, h3, h1, h2⟩
theorem key_cut : ∀ (x : List Int) (j : Nat), x.length = 32 → j < (id x).length → (rdKey ((id x).take j)).2.2 = 3 := fun x j h hj => by
  unfold rdKey
  rw [if_pos (by rw [List.length_take]; simp only [id] at *; omega)]
theorem flat_id (ks : List (List Int)) : ks.flatMap id = ks.flatten := by simp [List.flatMap_def]
theorem numsB_nat (ns : List Nat) : numsB (ns.map fun n : Nat => (n : Int)) = ns.flatMap numB := by
  unfold numsB
  rw [List.flatMap_map]
  simp
theorem nat_ints {ns : List Int} (h : ∀ n ∈ ns, 0 ≤ n ∧ n ≤ 4294967295) : ∃ ms : List Nat, ns = ms.map (fun n : Nat => (n : Int)) ∧ ∀ m ∈ ms, m ≤ 4294967295 := by
  refine ⟨ns.map Int.toNat, ?_, fun m hm => ?_⟩
  · rw [List.map_map]
    refine ((List.map_congr_left fun x hx => ?_).trans (List.map_id' ns)).symm
    have := (h x hx).1
    simp only [Function.comp_apply]; omega
  · obtain ⟨x, hx, rfl⟩ := List.mem_map.1 hm
    have := h x hx; omega
end
end Go.Proofs.Ytpdijcaikjobiaa
