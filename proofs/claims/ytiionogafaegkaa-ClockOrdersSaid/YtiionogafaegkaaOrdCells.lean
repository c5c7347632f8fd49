/-
  The cells of what is lacking, and of an owned slice.
-/
import Derived.Test.YtiionogafaegkaaOrdMath
namespace Go.Proofs.Ytiionogafaegkaa
open Go.RowKit
theorem lacksTo_len (f g : Nat → Int) (k : Nat) : (lacksTo f g k).length = 3 * lacksN f g k := by
  induction k with
  | zero => rfl
  | succ k ih =>
    rw [lacksTo, lacksN, List.length_append, ih]
    unfold spanCells
    split <;> simp <;> omega
/-- the three cells of an element -/
theorem lacks_elem (f g : Nat → Int) (k i : Nat) (h : i < lacksN f g k) : ∃ x y z, (lacksTo f g k)[3 * i]? = some (.int .i64 x) ∧ (lacksTo f g k)[3 * i + 1]? = some (.int .u32 y) ∧ (lacksTo f g k)[3 * i + 2]? = some (.int .u32 z) := by
  induction k with
  | zero => exact absurd h (by simp [lacksN])
  | succ k ih =>
    rw [lacksN] at h
    rw [lacksTo]
    have hl := lacksTo_len f g k
    by_cases hi : i < lacksN f g k
    · obtain ⟨x, y, z, h1, h2, h3⟩ := ih hi
      refine ⟨x, y, z, ?_, ?_, ?_⟩ <;> rw [List.getElem?_append_left (by omega)] <;> assumption
    · by_cases hk : f k < g k
      · rw [if_pos hk] at h
        have e : i = lacksN f g k := by omega
        refine ⟨k, f k + 1, g k, ?_, ?_, ?_⟩ <;> rw [List.getElem?_append_right (by omega), hl, e] <;> simp [spanCells, hk]
      · rw [if_neg hk] at h
        omega
/-- an owned slice of elements of three cells: its form, and its cells -/
theorem own_cells {w : World} {base n : Nat} {e : TypeId} {v : Value} {xs : List Value} (h : w.ownsRow base e 3 v n xs) : (v = .slice none 0 0 ∧ n = 0) ∨
    ∃ g cap, v = .slice (some ⟨g, 0, none⟩) n cap ∧ base ≤ g ∧ g < w.heap.size ∧ ∀ j u, xs[j]? = some u → w.cell? ⟨g, j, none⟩ = some u := by
  rcases h.2 with hn | ⟨g, cap, cur, rfl, hb, hg, _⟩
  · exact Or.inl hn
  · refine Or.inr ⟨g, cap, rfl, hb, (World.ownsRow.lt h g rfl).2, fun j u hu => ?_⟩
    have := World.ownsRow.cells h (g := g) rfl j u hu
    have ha : (⟨g, 0, none⟩ : Addr).add j = ⟨g, j, none⟩ := by unfold Addr.add; split <;> simp_all
    rwa [ha] at this
end Go.Proofs.Ytiionogafaegkaa
