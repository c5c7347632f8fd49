/-
  The cells of a tag under way.
-/
import Derived.Test.YthkcbhealphpmaaNt
import Derived.Lib.Strings
namespace Go.Proofs.Ythkcbhealphpmaa
open Go Go.RowKit
set_option linter.unusedVariables false
set_option linter.unusedSimpArgs false
set_option maxRecDepth 100000
set_option maxHeartbeats 2000000

/-- r, sum, the two words of s, the rest, how much of it is filled. -/
def pcells (r s : List Int) (lo hi : Int) (rs : List Int) (f : Int) : List Value := iv .u64 r ++ (iv .u64 s ++ (.int .u64 lo :: .int .u64 hi :: (iv .u8 rs ++ [.int .i64 f])))
/-- Numbers laid over others from a place on. -/
def setI : List Int → Nat → List Int → List Int
  | l, _, [] => l
  | l, i, x :: xs => setI (l.set i x) (i + 1) xs
theorem iv_setI (k : IntKind) (xs : List Int) : ∀ (l : List Int) (i : Nat), setR (iv k l) i (iv k xs) = iv k (setI l i xs) := by
  induction xs with
  | nil => intro l i; rfl
  | cons x xs ih =>
    intro l i
    show setR ((iv k l).set i (.int k x)) (i + 1) (iv k xs) = _
    rw [iv_set, ih]
    rfl
theorem setI_len (xs : List Int) : ∀ (l : List Int) (i : Nat), (setI l i xs).length = l.length := by
  induction xs with
  | nil => intro l i; rfl
  | cons x xs ih => intro l i; show (setI (l.set i x) (i + 1) xs).length = _; rw [ih]; simp
theorem setI_get (xs : List Int) : ∀ (l : List Int) (i p : Nat), i + xs.length ≤ l.length → (setI l i xs).getD p 0 = if i ≤ p ∧ p < i + xs.length then xs.getD (p - i) 0 else l.getD p 0 := by
  induction xs with
  | nil => intro l i p _; rw [if_neg (by simp only [List.length_nil]; omega)]; rfl
  | cons x xs ih =>
    intro l i p h
    simp only [List.length_cons] at h ⊢
    show (setI (l.set i x) (i + 1) xs).getD p 0 = _
    rw [ih _ _ _ (by simp; omega), getD_setI]
    by_cases h1 : i + 1 ≤ p ∧ p < i + 1 + xs.length
    · rw [if_pos h1, if_pos (by omega), show p - i = (p - (i + 1)) + 1 by omega, List.getD_cons_succ]
    · rw [if_neg h1]
      by_cases h2 : i = p
      · subst h2
        rw [if_pos ⟨rfl, by omega⟩, if_pos (by omega), Nat.sub_self, List.getD_cons_zero]
      · rw [if_neg (by omega), if_neg (by omega)]
theorem setI_by {xs : List Int} (hx : By xs) {l : List Int} (hl : By l) {i : Nat} (h : i + xs.length ≤ l.length) : By (setI l i xs) := by
  intro y hy
  obtain ⟨p, hp, rfl⟩ := List.mem_iff_getElem.1 hy
  have e : (setI l i xs)[p] = (setI l i xs).getD p 0 := by rw [List.getD_eq_getElem?_getD, List.getElem?_eq_getElem hp]; rfl
  rw [e, setI_get _ _ _ _ h]
  split
  · exact hx.get _
  · exact hl.get _
section
variable {r s rs : List Int} {lo hi f : Int}
theorem pc_len (hr : r.length = 5) (hs : s.length = 5) (hl : rs.length = 16) : (pcells r s lo hi rs f).length = 29 := by unfold pcells; simp [hr, hs, hl]
theorem pc_r (hr : r.length = 5) (hs : s.length = 5) (hl : rs.length = 16) (i : Nat) (h : i < 5) : (pcells r s lo hi rs f)[i]? = some (.int .u64 (r.getD i 0)) := by
  unfold pcells
  rw [List.getElem?_append_left (by simp; omega)]
  exact iv_getN _ _ _ (by omega)
theorem pc_s (hr : r.length = 5) (hs : s.length = 5) (hl : rs.length = 16) (i : Nat) (h : i < 5) : (pcells r s lo hi rs f)[5 + i]? = some (.int .u64 (s.getD i 0)) := by
  unfold pcells
  rw [List.getElem?_append_right (by simp; omega), iv_length, hr, List.getElem?_append_left (by simp; omega), show 5 + i - 5 = i by omega]
  exact iv_getN _ _ _ (by omega)
theorem pc_lo (hr : r.length = 5) (hs : s.length = 5) (hl : rs.length = 16) : (pcells r s lo hi rs f)[10]? = some (.int .u64 lo) := by
  unfold pcells
  rw [List.getElem?_append_right (by simp; omega), iv_length, hr, List.getElem?_append_right (by simp; omega), iv_length, hs]
  rfl
theorem pc_hi (hr : r.length = 5) (hs : s.length = 5) (hl : rs.length = 16) : (pcells r s lo hi rs f)[11]? = some (.int .u64 hi) := by
  unfold pcells
  rw [List.getElem?_append_right (by simp; omega), iv_length, hr, List.getElem?_append_right (by simp; omega), iv_length, hs]
  rfl
theorem pc_tail (hr : r.length = 5) (hs : s.length = 5) (hl : rs.length = 16) : (pcells r s lo hi rs f).drop 12 = iv .u8 rs ++ ([.int .i64 f] : List Value) := by
  unfold pcells
  rw [List.drop_append, List.drop_of_length_le (by simp; omega), List.nil_append, iv_length, hr, List.drop_append, List.drop_of_length_le (by simp; omega), List.nil_append, iv_length, hs]
  rfl
theorem pc_rs (hr : r.length = 5) (hs : s.length = 5) (hl : rs.length = 16) (i : Nat) (h : i < 16) : (pcells r s lo hi rs f)[12 + i]? = some (.int .u8 (rs.getD i 0)) := by
  rw [← List.getElem?_drop, pc_tail hr hs hl, List.getElem?_append_left (by simp; omega)]
  exact iv_getN _ _ _ (by omega)
theorem pc_f (hr : r.length = 5) (hs : s.length = 5) (hl : rs.length = 16) : (pcells r s lo hi rs f)[28]? = some (.int .i64 f) := by
  rw [show (28 : Nat) = 12 + 16 from rfl, ← List.getElem?_drop, pc_tail hr hs hl, List.getElem?_append_right (by simp; omega), iv_length, hl]
  rfl
theorem pc_sums (hr : r.length = 5) (hs : s.length = 5) (hl : rs.length = 16) : ((pcells r s lo hi rs f).drop 5).take 5 = iv .u64 s := by
  unfold pcells
  rw [List.drop_append, List.drop_of_length_le (by simp; omega), List.nil_append, iv_length, hr, Nat.sub_self, List.drop_zero, List.take_append_of_le_length (by simp; omega), List.take_of_length_le (by simp; omega)]
theorem pc_all (hr : r.length = 5) (hs : s.length = 5) (hl : rs.length = 16) : (pcells r s lo hi rs f).take 29 = pcells r s lo hi rs f := List.take_of_length_le (by rw [pc_len hr hs hl]; omega)
theorem pc_over (hr : r.length = 5) (hs : s.length = 5) (hl : rs.length = 16) (X : List Value) (hX : X.length = 29) : setR X 0 (pcells r s lo hi rs f) = pcells r s lo hi rs f := setR_all _ _ (by rw [pc_len hr hs hl, hX])
theorem pc_setf (hr : r.length = 5) (hs : s.length = 5) (hl : rs.length = 16) (x : Int) : (pcells r s lo hi rs f).set 28 (.int .i64 x) = pcells r s lo hi rs x := by
  unfold pcells
  rw [List.set_append_right _ _ (by simp; omega), iv_length, hr, List.set_append_right _ _ (by simp; omega), iv_length, hs]
  show _ ++ (_ ++ (_ :: _ :: (iv .u8 rs ++ ([.int .i64 f] : List Value)).set 16 _)) = _
  rw [List.set_append_right _ _ (by simp; omega), iv_length, hl]
  rfl
theorem pc_sets (hr : r.length = 5) (hs : s.length = 5) (hl : rs.length = 16) (s' : List Int) (h : s'.length = 5) : setR (pcells r s lo hi rs f) 5 (iv .u64 s') = pcells r s' lo hi rs f := by
  have hp := pc_len (lo := lo) (hi := hi) (f := f) hr hs hl
  apply List.ext_getElem?
  intro j
  rw [setR_get _ _ _ _ (by rw [hp]; simp; omega)]
  simp only [iv_length, h]
  unfold pcells
  by_cases h1 : j < 5
  · rw [if_neg (by omega), List.getElem?_append_left (by simp; omega), List.getElem?_append_left (by simp; omega)]
  · rw [List.getElem?_append_right (l₁ := iv .u64 r) (by simp; omega), List.getElem?_append_right (l₁ := iv .u64 r) (by simp; omega), iv_length, hr]
    by_cases h2 : j - 5 < 5
    · rw [if_pos (by omega), List.getElem?_append_left (l₁ := iv .u64 s') (by simp; omega)]
    · rw [if_neg (by omega), List.getElem?_append_right (l₁ := iv .u64 s) (by simp; omega), List.getElem?_append_right (l₁ := iv .u64 s') (by simp; omega), iv_length, iv_length, hs, h]
theorem pc_setrs (hr : r.length = 5) (hs : s.length = 5) (hl : rs.length = 16) (l : List Int) (o : Nat) (ho : o + l.length ≤ 16) : setR (pcells r s lo hi rs f) (12 + o) (iv .u8 l) = pcells r s lo hi (setI rs o l) f := by
  have hp := pc_len (lo := lo) (hi := hi) (f := f) hr hs hl
  unfold pcells at hp ⊢
  rw [← iv_setI]
  apply List.ext_getElem?
  intro j
  rw [setR_get _ _ _ _ (by rw [hp]; simp; omega)]
  simp only [iv_length]
  by_cases h1 : j < 5
  · rw [if_neg (by omega), List.getElem?_append_left (by simp; omega), List.getElem?_append_left (by simp; omega)]
  rw [List.getElem?_append_right (l₁ := iv .u64 r) (by simp; omega), List.getElem?_append_right (l₁ := iv .u64 r) (by simp; omega), iv_length, hr]
  by_cases h2 : j - 5 < 5
  · rw [if_neg (by omega), List.getElem?_append_left (by simp; omega), List.getElem?_append_left (by simp; omega)]
  rw [List.getElem?_append_right (l₁ := iv .u64 s) (by simp; omega), List.getElem?_append_right (l₁ := iv .u64 s) (by simp; omega), iv_length, hs]
  match hj : j - 5 - 5 with
  | 0 => rw [if_neg (by omega)]; rfl
  | 1 => rw [if_neg (by omega)]; rfl
  | k + 2 =>
    simp only [List.getElem?_cons_succ]
    by_cases h3 : k < 16
    · rw [List.getElem?_append_left (by simp; omega), List.getElem?_append_left (by simp; omega), setR_get _ _ _ _ (by simp; omega)]
      simp only [iv_length]
      by_cases h4 : o ≤ k ∧ k < o + l.length
      · rw [if_pos (by omega), if_pos h4, show j - (12 + o) = k - o by omega]
      · rw [if_neg (by omega), if_neg h4]
    · rw [List.getElem?_append_right (by simp; omega), List.getElem?_append_right (by simp; omega), if_neg (by omega)]
      simp
/-- The rest as a slice of its block. -/
theorem pc_sl (hr : r.length = 5) (hs : s.length = 5) (hl : rs.length = 16) {H : AH} {b o : Nat} {ty : TypeId} {es : Option Nat} (hg : hget H b = some ⟨pcells r s lo hi rs f, ty, es⟩) (ho : o ≤ 16) (c : Nat) : ∃ k : Nat, k = 16 - o ∧ SlV H (.slice (some ⟨b, 12 + o, none⟩) k k) (iv .u8 (rs.drop o)) := by
  refine ⟨16 - o, rfl, .inr ⟨b, 12 + o, _, ?_, hg, fun i x hi => ?_⟩⟩
  · rw [iv_length, List.length_drop, hl]
  · have h1 : i < 16 - o := by
      have := (List.getElem?_eq_some_iff.1 hi).1
      simp [hl] at this
      omega
    rw [Nat.add_assoc, pc_rs hr hs hl (o + i) (by omega)]
    rw [iv_getN _ _ _ (by simp [hl]; omega)] at hi
    rw [← hi]
    congr 2
    simp [List.getD_eq_getElem?_getD]
end
end Go.Proofs.Ythkcbhealphpmaa
