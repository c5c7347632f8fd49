/-
  Clocks by their numbers alone: joins and the order, told by the greatest numbers.
-/
import Derived.Test.YtiionogafaegkaaOrder
import Derived.Test.YtiionogafaegkaaMost
namespace Go.Proofs.Ytiionogafaegkaa
open Go.RowKit
theorem fl_eq {f g : Nat → Int} : fl f = fl g ↔ ∀ j, j < 8 → f j = g j := by
  unfold fl
  constructor
  · intro h j hj
    have := congrArg (fun l : List Int => l[j]?) h
    simpa [hj] using this
  · intro h
    exact List.map_congr_left fun j hj => h j (by simpa using hj)
def U32' (f : Nat → Int) : Prop := ∀ j, 0 ≤ f j
theorem join2_at (f g : Nat → Int) (hf : U32' f) (j : Nat) : join2 f g j = max (f j) (g j) := by
  have := hf j
  simp only [join2, joinTo, two, Nat.reduceEqDiff, if_true, if_false]
  omega
theorem mostB_iff (f g : Nat → Int) (hf : U32' f) : mostB f g = true ↔ ∀ j, j < 8 → f j ≤ g j := by
  have e1 : (fl (join2 f g) == fl f) = true ↔ ∀ j, j < 8 → g j ≤ f j := by
    rw [beq_iff_eq, fl_eq]
    exact forall_congr' fun j => forall_congr' fun _ => by rw [join2_at f g hf]; omega
  have e2 : (fl (join2 f g) == fl g) = true ↔ ∀ j, j < 8 → f j ≤ g j := by
    rw [beq_iff_eq, fl_eq]
    exact forall_congr' fun j => forall_congr' fun _ => by rw [join2_at f g hf]; omega
  have e3 : (fl f == fl g) = true ↔ ∀ j, j < 8 → f j = g j := by rw [beq_iff_eq, fl_eq]
  unfold mostB orderOf
  by_cases h1 : (fl (join2 f g) == fl f) = true
  · rw [if_pos h1]
    by_cases h3 : (fl f == fl g) = true
    · rw [if_pos h3]
      simp only [Int.reduceBEq, Bool.or_true, true_iff]
      intro j hj; have := (e3.1 h3) j hj; omega
    · rw [if_neg h3]
      simp only [Int.reduceBEq, Bool.or_false, Bool.false_eq_true, false_iff]
      intro h
      exact h3 (e3.2 fun j hj => by have := h j hj; have := e1.1 h1 j hj; omega)
  · rw [if_neg h1]
    by_cases h2 : (fl (join2 f g) == fl g) = true
    · rw [if_pos h2]
      simp only [Int.reduceBEq, Int.reduceNeg, Bool.true_or, true_iff]
      exact e2.1 h2
    · rw [if_neg h2]
      simp only [Int.reduceBEq, Int.reduceNeg, Bool.or_false, Bool.false_eq_true, false_iff]
      exact fun h => h2 (e2.2 h)
theorem join2_u32 {f g : Nat → Int} (hf : U32' f) : U32' (join2 f g) := fun j => by rw [join2_at f g hf]; have := hf j; omega
theorem L1 (a b : Nat → Int) (ha : U32' a) : mostB a (join2 a b) = true := (mostB_iff _ _ ha).2 fun j _ => by rw [join2_at a b ha]; omega
theorem L2 (a b : Nat → Int) (ha : U32' a) (hb : U32' b) : mostB b (join2 a b) = true := (mostB_iff _ _ hb).2 fun j _ => by rw [join2_at a b ha]; omega
theorem L3 (a b c : Nat → Int) (ha : U32' a) (hb : U32' b) : join2 (join2 a b) c = join2 a (join2 b c) := by
  funext j; rw [join2_at _ _ (join2_u32 ha), join2_at a b ha, join2_at a _ ha, join2_at b c hb]; omega
theorem L4 (a b : Nat → Int) (ha : U32' a) (hb : U32' b) : join2 b a = join2 a b := by
  funext j; rw [join2_at _ _ ha, join2_at b a hb]; omega
theorem L5 (a b c : Nat → Int) (ha : U32' a) (hb : U32' b) (h1 : mostB a c = true) (h2 : mostB b c = true) : mostB (join2 a b) c = true :=
  (mostB_iff _ _ (join2_u32 ha)).2 fun j hj => by rw [join2_at a b ha]; have := (mostB_iff _ _ ha).1 h1 j hj; have := (mostB_iff _ _ hb).1 h2 j hj; omega
theorem L6 (a b c : Nat → Int) (ha : U32' a) (hb : U32' b) (h1 : mostB a b = true) (h2 : mostB b c = true) : mostB a c = true :=
  (mostB_iff _ _ ha).2 fun j hj => by have := (mostB_iff _ _ ha).1 h1 j hj; have := (mostB_iff _ _ hb).1 h2 j hj; omega
theorem L7 (a b : Nat → Int) (ha : U32' a) (hb : U32' b) (h1 : mostB a b = true) (h2 : mostB b a = true) : fl a = fl b :=
  fl_eq.2 fun j hj => by have := (mostB_iff _ _ ha).1 h1 j hj; have := (mostB_iff _ _ hb).1 h2 j hj; omega
theorem L8 (a : Nat → Int) (ha : U32' a) : mostB a a = true := (mostB_iff _ _ ha).2 fun j _ => by omega
end Go.Proofs.Ytiionogafaegkaa
