/-
  clock.Order, by its text: how two clocks stand, by their join.
-/
import Derived.Test.YtiionogafaegkaaJoin
namespace Go.Proofs.Ytiionogafaegkaa
open Go.RowKit
def fl (f : Nat → Int) : List Int := (List.range 8).map f
theorem cl_fl (f : Nat → Int) : cl f = ints .u32 (fl f) := rfl
theorem fl_len (f : Nat → Int) : (fl f).length = 8 := rfl
theorem eq_clk (f g : Nat → Int) (W : World) : (binOp .eql 27 (.agg (cl f)) (.agg (cl g))).run Try.prog W = .ok (.bool (fl f == fl g)) W := by
  rw [cl_fl, cl_fl]
  obtain ⟨i, hi, h1⟩ : ∃ i, Try.prog.info? 25 = some i ∧ i.size = 1 := ⟨_, rfl, by kernel_rfl⟩
  exact run_eql_ints 27 25 8 .u32 .u32 i _ _ Try.underlying27 Try.underlying25 hi h1 rfl rfl W
/-- the clocks of a list of two -/
def two (f g : Nat → Int) : Nat → Nat → Int := fun i => if i = 0 then f else g
def join2 (f g : Nat → Int) : Nat → Int := joinTo (two f g) 2

/-- Join of a slice of two clocks that was just built. -/
theorem join_two (f g : Nat → Int) (b : Nat) (cs : Array Value) (w : World) (hb : b = w.heap.size) (hcs : cs = cl f ++ cl g) :
    Calls Try.prog 19 #[.slice (some ⟨b, 0, none⟩) 2 2] (w.alloc (.cells cs 27)) fun e w' => e = .returned (.agg (cl (join2 f g))) ∧ Below w.heap.size w w' := by
  subst hb hcs
  have hrow := heap_alloc_new w (.cells (cl f ++ cl g) 27)
  refine (join_any w.heap.size 0 2 2 (by omega) (two f g) (w.alloc (.cells (cl f ++ cl g) 27)) (by simp) ?_).mono ?_
  · intro i j hi hj
    rw [cell_of_row _ _ _ _ _ _ hrow]
    rcases (by omega : i = 0 ∨ i = 1) with rfl | rfl <;> rcases (by omega : j = 0 ∨ j = 1 ∨ j = 2 ∨ j = 3 ∨ j = 4 ∨ j = 5 ∨ j = 6 ∨ j = 7) with rfl | rfl | rfl | rfl | rfl | rfl | rfl | rfl <;> rfl
  · rintro e w' ⟨rfl, hb⟩
    exact ⟨rfl, ((Below.refl _ _).alloc (Nat.le_refl _) _).trans (hb.mono (by simp))⟩

theorem cells8 {w : World} {b : Nat} {f : Nat → Int} (h : w.heap[b]? = some (.cells (cl f) 27 (0, 0))) :
    w.cell? ⟨b, 0, none⟩ = some (.int .u32 (f 0)) ∧ w.cell? ⟨b, 1, none⟩ = some (.int .u32 (f 1)) ∧ w.cell? ⟨b, 2, none⟩ = some (.int .u32 (f 2)) ∧ w.cell? ⟨b, 3, none⟩ = some (.int .u32 (f 3)) ∧
    w.cell? ⟨b, 4, none⟩ = some (.int .u32 (f 4)) ∧ w.cell? ⟨b, 5, none⟩ = some (.int .u32 (f 5)) ∧ w.cell? ⟨b, 6, none⟩ = some (.int .u32 (f 6)) ∧ w.cell? ⟨b, 7, none⟩ = some (.int .u32 (f 7)) := by
  refine ⟨?_, ?_, ?_, ?_, ?_, ?_, ?_, ?_⟩ <;> rw [cell_of_row _ _ _ _ _ _ h] <;> rfl

def orderOf (f g : Nat → Int) : Int := if fl (join2 f g) == fl f then (if fl f == fl g then 0 else 1) else if fl (join2 f g) == fl g then -1 else 2

set_option maxHeartbeats 400000 in
theorem order_any (f g : Nat → Int) (w : World) :
    Calls Try.prog 17 #[.agg (cl f), .agg (cl g)] w fun e w' => e = .returned (.int .i64 (orderOf f g)) ∧ Below w.heap.size w w' := by
  have E1 := eq_clk (join2 f g) f
  have E2 := eq_clk (join2 f g) g
  have E3 := eq_clk f g
  have O : Hid (orderOf f g = if fl (join2 f g) == fl f then (if fl f == fl g then 0 else 1) else if fl (join2 f g) == fl g then -1 else 2) := rfl
  generalize (fl (join2 f g) == fl f) = b1 at *
  generalize (fl (join2 f g) == fl g) = b2 at *
  generalize (fl f == fl g) = b3 at *
  generalize orderOf f g = o at *
  simp only [cl] at E1 E2 E3 ⊢
  go_enter Try.func17, Try.ntmps17
  go_wp2_with fail
  refine (join_two f g _ _ _ (by simp) rfl).mono ?_
  rintro e w' ⟨rfl, hb⟩
  simp only [cl]
  obtain ⟨f0, f1, f2, f3, f4, f5, f6, f7⟩ := cells8 ((hb.block w.heap.size (by simp; omega)).trans (heap_alloc2_old w (.cells (cl f) 27) (.cells (cl g) 27)))
  obtain ⟨g0, g1, g2, g3, g4, g5, g6, g7⟩ := cells8 ((hb.block (w.heap.size + 1) (by simp)).trans (heap_alloc2_new w (.cells (cl f) 27) (.cells (cl g) 27)))
  have hB : Below w.heap.size w w' := (((Below.refl _ _).alloc (Nat.le_refl _) _).alloc (by simp) _).trans (hb.mono (by simp; omega))
  clear hb
  cases b1
  · cases b2
    · go_wp2
      go_ret
      exact ⟨by rw [O.out]; rfl, hB⟩
    · go_wp2
      go_ret
      exact ⟨by rw [O.out]; rfl, hB⟩
  · cases b3
    · go_wp2
      go_ret
      exact ⟨by rw [O.out]; rfl, hB⟩
    · go_wp2
      go_ret
      exact ⟨by rw [O.out]; rfl, hB⟩
end Go.Proofs.Ytiionogafaegkaa
