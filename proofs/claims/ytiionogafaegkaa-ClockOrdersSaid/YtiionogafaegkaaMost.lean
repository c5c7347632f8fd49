/-
  Whether a clock is at most another one, by the statement text.
-/
import Derived.Test.YtiionogafaegkaaOrder
namespace Go.Proofs.Ytiionogafaegkaa
open Go.RowKit
def mostB (f g : Nat → Int) : Bool := orderOf f g == -1 || orderOf f g == 0
set_option maxHeartbeats 400000 in
theorem most_any (f g : Nat → Int) (w : World) :
    Calls Try.prog 26 #[.agg (cl f), .agg (cl g)] w fun e w' => e = .returned (.bool (mostB f g)) ∧ Below w.heap.size w w' := by
  have O := fun W => order_any f g W
  have M : Hid (mostB f g = (orderOf f g == -1 || orderOf f g == 0)) := rfl
  generalize orderOf f g = o at *
  generalize mostB f g = m at *
  have H := hide O
  clear O
  simp only [cl] at H ⊢
  go_enter Try.func26, Try.ntmps26
  go_wp2_with fail
  refine (H.out _).mono ?_
  rintro e w' ⟨rfl, hb⟩
  obtain ⟨f0, f1, f2, f3, f4, f5, f6, f7⟩ := cells8 ((hb.block w.heap.size (by simp; omega)).trans (heap_alloc2_old w (.cells (cl f) 27) (.cells (cl g) 27)))
  obtain ⟨g0, g1, g2, g3, g4, g5, g6, g7⟩ := cells8 ((hb.block (w.heap.size + 1) (by simp)).trans (heap_alloc2_new w (.cells (cl f) 27) (.cells (cl g) 27)))
  have hB : Below w.heap.size w w' := (((Below.refl _ _).alloc (Nat.le_refl _) _).alloc (by simp) _).trans (hb.mono (by simp; omega))
  clear hb
  by_cases h1 : o = -1
  · have h1' : (o == -1) = true := by simp [h1]
    clear h1
    go_wp2
    go_ret
    exact ⟨by rw [M.out]; simp [h1'], hB⟩
  · have h1' : (o == -1) = false := by simp [h1]
    clear h1
    go_wp2_with fail
    refine (H.out _).mono ?_
    rintro e w2 ⟨rfl, hb⟩
    go_wp2
    go_ret
    exact ⟨by rw [M.out]; simp [h1'], hB.trans (hb.mono hB.size)⟩
end Go.Proofs.Ytiionogafaegkaa
