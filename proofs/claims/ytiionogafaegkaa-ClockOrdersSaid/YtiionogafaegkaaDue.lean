/-
  clock.Due, by its text, for whatever author.
-/
import Derived.Test.YtiionogafaegkaaLacks
namespace Go.Proofs.Ytiionogafaegkaa
open Go.RowKit
def dec (c : Nat → Int) (a : Nat) : Nat → Int := fun i => if i = a then c a - 1 else c i
/-- what Due answers, for an author who is a member -/
def dueOf (have_ c : Nat → Int) (a : Nat) : Bool :=
  if c a = 0 then false else (c a - 1 == have_ a) && (fl (join2 have_ (dec c a)) == fl have_)
def dueB (have_ c : Nat → Int) (author : Int) : Bool := if author < 0 ∨ 8 ≤ author then false else dueOf have_ c author.toNat

set_option maxHeartbeats 400000 in
theorem due_out (f g : Nat → Int) (a : Int) (ha : a < 0 ∨ 8 ≤ a) (w : World) :
    Calls Try.prog 21 #[.agg (cl f), .agg (cl g), .int .i64 a] w fun e w' => e = .returned (.bool false) ∧ Below w.heap.size w w' := by
  simp only [cl]
  rcases ha with ha | ha
  · go_enter Try.func21, Try.ntmps21
    go_wp2
    go_ret
    exact ⟨rfl, ((Below.refl _ _).alloc (Nat.le_refl _) _).alloc (by simp) _⟩
  · have h0 : ¬ a < 0 := by omega
    go_enter Try.func21, Try.ntmps21
    go_wp2
    go_ret
    exact ⟨rfl, ((Below.refl _ _).alloc (Nat.le_refl _) _).alloc (by simp) _⟩

set_option maxHeartbeats 400000 in
theorem due_zero (f g : Nat → Int) (a : Nat) (ha : a < 8) (hz : g a = 0) (w : World) :
    Calls Try.prog 21 #[.agg (cl f), .agg (cl g), .int .i64 a] w fun e w' => e = .returned (.bool false) ∧ Below w.heap.size w w' := by
  have hc := cl_cell (heap_alloc2_new w (.cells (cl f) 27) (.cells (cl g) 27)) ha
  have hz' : (g a == 0) = true := by simp [hz]
  clear hz
  simp only [cl] at hc ⊢
  go_enter Try.func21, Try.ntmps21
  go_wp2
  go_ret
  exact ⟨rfl, ((Below.refl _ _).alloc (Nat.le_refl _) _).alloc (by simp) _⟩

theorem join_row (f g : Nat → Int) (b : Nat) (cs : Array Value) (X : World) (hX : X.heap[b]? = some (.cells cs 27 (0, 0))) (hcs : cs = cl f ++ cl g) :
    Calls Try.prog 19 #[.slice (some ⟨b, 0, none⟩) 2 2] X fun e w' => e = .returned (.agg (cl (join2 f g))) ∧ Below X.heap.size X w' := by
  subst hcs
  refine (join_any b 0 2 2 (by omega) (two f g) X ?_ ?_).mono ?_
  · rcases Nat.lt_or_ge b X.heap.size with hlt | hge
    · exact hlt
    · rw [Array.getElem?_eq_none hge] at hX; cases hX
  · intro i j hi hj
    rw [cell_of_row _ _ _ _ _ _ hX]
    rcases (by omega : i = 0 ∨ i = 1) with rfl | rfl <;> rcases (by omega : j = 0 ∨ j = 1 ∨ j = 2 ∨ j = 3 ∨ j = 4 ∨ j = 5 ∨ j = 6 ∨ j = 7) with rfl | rfl | rfl | rfl | rfl | rfl | rfl | rfl <;> rfl
  · rintro e w' ⟨rfl, hb⟩
    exact ⟨rfl, hb⟩

theorem heap3 (w : World) (A B C : Obj) : ((((w.alloc A).alloc B).alloc C).drew).heap[w.heap.size + 1 + 1]? = some C := by
  have h := heap_alloc_new ((w.alloc A).alloc B) C
  have e : ((w.alloc A).alloc B).heap.size = w.heap.size + 1 + 1 := by simp
  rw [e] at h
  exact h
theorem heap3_0 (w : World) (A B C : Obj) : ((((w.alloc A).alloc B).alloc C).drew).heap[w.heap.size]? = some A :=
  (Below.heap_alloc ((w.alloc A).alloc B) C w.heap.size (by simp; omega)).trans (heap_alloc2_old w A B)
theorem heap3_1 (w : World) (A B C : Obj) : ((((w.alloc A).alloc B).alloc C).drew).heap[w.heap.size + 1]? = some B :=
  (Below.heap_alloc ((w.alloc A).alloc B) C (w.heap.size + 1) (by simp)).trans (heap_alloc2_new w A B)
set_option maxHeartbeats 400000 in
theorem due_not0 (f g : Nat → Int) (hb1 : 0 ≤ g 0 - 1) (hb2 : g 0 - 1 ≤ 4294967295) (hz' : (g 0 == 0) = false) (hq : (g 0 - 1 == f 0) = false) (w : World) :
    Calls Try.prog 21 #[.agg (cl f), .agg (cl g), .int .i64 0] w fun e w' => e = .returned (.bool false) ∧ Below w.heap.size w w' := by
  simp only [cl]
  go_enter Try.func21, Try.ntmps21
  go_wp2_with fail
  go_quiet (fail)
  go_wp2
  go_ret
  exact ⟨rfl, below_drewN (((Below.refl _ _).alloc (Nat.le_refl _) _).alloc (by simp) _) _⟩
set_option maxHeartbeats 400000 in
theorem due_not1 (f g : Nat → Int) (hb1 : 0 ≤ g 1 - 1) (hb2 : g 1 - 1 ≤ 4294967295) (hz' : (g 1 == 0) = false) (hq : (g 1 - 1 == f 1) = false) (w : World) :
    Calls Try.prog 21 #[.agg (cl f), .agg (cl g), .int .i64 1] w fun e w' => e = .returned (.bool false) ∧ Below w.heap.size w w' := by
  simp only [cl]
  go_enter Try.func21, Try.ntmps21
  go_wp2_with fail
  go_quiet (fail)
  go_wp2
  go_ret
  exact ⟨rfl, below_drewN (((Below.refl _ _).alloc (Nat.le_refl _) _).alloc (by simp) _) _⟩
set_option maxHeartbeats 400000 in
theorem due_not2 (f g : Nat → Int) (hb1 : 0 ≤ g 2 - 1) (hb2 : g 2 - 1 ≤ 4294967295) (hz' : (g 2 == 0) = false) (hq : (g 2 - 1 == f 2) = false) (w : World) :
    Calls Try.prog 21 #[.agg (cl f), .agg (cl g), .int .i64 2] w fun e w' => e = .returned (.bool false) ∧ Below w.heap.size w w' := by
  simp only [cl]
  go_enter Try.func21, Try.ntmps21
  go_wp2_with fail
  go_quiet (fail)
  go_wp2
  go_ret
  exact ⟨rfl, below_drewN (((Below.refl _ _).alloc (Nat.le_refl _) _).alloc (by simp) _) _⟩
set_option maxHeartbeats 400000 in
theorem due_not3 (f g : Nat → Int) (hb1 : 0 ≤ g 3 - 1) (hb2 : g 3 - 1 ≤ 4294967295) (hz' : (g 3 == 0) = false) (hq : (g 3 - 1 == f 3) = false) (w : World) :
    Calls Try.prog 21 #[.agg (cl f), .agg (cl g), .int .i64 3] w fun e w' => e = .returned (.bool false) ∧ Below w.heap.size w w' := by
  simp only [cl]
  go_enter Try.func21, Try.ntmps21
  go_wp2_with fail
  go_quiet (fail)
  go_wp2
  go_ret
  exact ⟨rfl, below_drewN (((Below.refl _ _).alloc (Nat.le_refl _) _).alloc (by simp) _) _⟩
set_option maxHeartbeats 400000 in
theorem due_not4 (f g : Nat → Int) (hb1 : 0 ≤ g 4 - 1) (hb2 : g 4 - 1 ≤ 4294967295) (hz' : (g 4 == 0) = false) (hq : (g 4 - 1 == f 4) = false) (w : World) :
    Calls Try.prog 21 #[.agg (cl f), .agg (cl g), .int .i64 4] w fun e w' => e = .returned (.bool false) ∧ Below w.heap.size w w' := by
  simp only [cl]
  go_enter Try.func21, Try.ntmps21
  go_wp2_with fail
  go_quiet (fail)
  go_wp2
  go_ret
  exact ⟨rfl, below_drewN (((Below.refl _ _).alloc (Nat.le_refl _) _).alloc (by simp) _) _⟩
set_option maxHeartbeats 400000 in
theorem due_not5 (f g : Nat → Int) (hb1 : 0 ≤ g 5 - 1) (hb2 : g 5 - 1 ≤ 4294967295) (hz' : (g 5 == 0) = false) (hq : (g 5 - 1 == f 5) = false) (w : World) :
    Calls Try.prog 21 #[.agg (cl f), .agg (cl g), .int .i64 5] w fun e w' => e = .returned (.bool false) ∧ Below w.heap.size w w' := by
  simp only [cl]
  go_enter Try.func21, Try.ntmps21
  go_wp2_with fail
  go_quiet (fail)
  go_wp2
  go_ret
  exact ⟨rfl, below_drewN (((Below.refl _ _).alloc (Nat.le_refl _) _).alloc (by simp) _) _⟩
set_option maxHeartbeats 400000 in
theorem due_not6 (f g : Nat → Int) (hb1 : 0 ≤ g 6 - 1) (hb2 : g 6 - 1 ≤ 4294967295) (hz' : (g 6 == 0) = false) (hq : (g 6 - 1 == f 6) = false) (w : World) :
    Calls Try.prog 21 #[.agg (cl f), .agg (cl g), .int .i64 6] w fun e w' => e = .returned (.bool false) ∧ Below w.heap.size w w' := by
  simp only [cl]
  go_enter Try.func21, Try.ntmps21
  go_wp2_with fail
  go_quiet (fail)
  go_wp2
  go_ret
  exact ⟨rfl, below_drewN (((Below.refl _ _).alloc (Nat.le_refl _) _).alloc (by simp) _) _⟩
set_option maxHeartbeats 400000 in
theorem due_not7 (f g : Nat → Int) (hb1 : 0 ≤ g 7 - 1) (hb2 : g 7 - 1 ≤ 4294967295) (hz' : (g 7 == 0) = false) (hq : (g 7 - 1 == f 7) = false) (w : World) :
    Calls Try.prog 21 #[.agg (cl f), .agg (cl g), .int .i64 7] w fun e w' => e = .returned (.bool false) ∧ Below w.heap.size w w' := by
  simp only [cl]
  go_enter Try.func21, Try.ntmps21
  go_wp2_with fail
  go_quiet (fail)
  go_wp2
  go_ret
  exact ⟨rfl, below_drewN (((Below.refl _ _).alloc (Nat.le_refl _) _).alloc (by simp) _) _⟩
set_option maxHeartbeats 800000 in
theorem due_yes0 (f g : Nat → Int) (hb1 : 0 ≤ g 0 - 1) (hb2 : g 0 - 1 ≤ 4294967295) (hz' : (g 0 == 0) = false) (hq : (g 0 - 1 == f 0) = true) (w : World) :
    Calls Try.prog 21 #[.agg (cl f), .agg (cl g), .int .i64 0] w fun e w' => e = .returned (.bool (fl (join2 f (dec g 0)) == fl f)) ∧ Below w.heap.size w w' := by
  have E := eq_clk (join2 f (dec g 0)) f
  generalize (fl (join2 f (dec g 0)) == fl f) = b at *
  simp only [cl] at E ⊢
  go_enter Try.func21, Try.ntmps21
  go_wp2_with fail
  go_region_held3 (fun w' => w'.cell? ⟨w.heap.size, 0, none⟩ = some (.int .u32 (f 0)) ∧ w'.cell? ⟨w.heap.size, 1, none⟩ = some (.int .u32 (f 1)) ∧ w'.cell? ⟨w.heap.size, 2, none⟩ = some (.int .u32 (f 2)) ∧ w'.cell? ⟨w.heap.size, 3, none⟩ = some (.int .u32 (f 3)) ∧ w'.cell? ⟨w.heap.size, 4, none⟩ = some (.int .u32 (f 4)) ∧ w'.cell? ⟨w.heap.size, 5, none⟩ = some (.int .u32 (f 5)) ∧ w'.cell? ⟨w.heap.size, 6, none⟩ = some (.int .u32 (f 6)) ∧ w'.cell? ⟨w.heap.size, 7, none⟩ = some (.int .u32 (f 7)) ∧ w'.cell? ⟨w.heap.size + 1, 0, none⟩ = some (.int .u32 (g 0 - 1)) ∧ w'.cell? ⟨w.heap.size + 1, 1, none⟩ = some (.int .u32 (g 1)) ∧ w'.cell? ⟨w.heap.size + 1, 2, none⟩ = some (.int .u32 (g 2)) ∧ w'.cell? ⟨w.heap.size + 1, 3, none⟩ = some (.int .u32 (g 3)) ∧ w'.cell? ⟨w.heap.size + 1, 4, none⟩ = some (.int .u32 (g 4)) ∧ w'.cell? ⟨w.heap.size + 1, 5, none⟩ = some (.int .u32 (g 5)) ∧ w'.cell? ⟨w.heap.size + 1, 6, none⟩ = some (.int .u32 (g 6)) ∧ w'.cell? ⟨w.heap.size + 1, 7, none⟩ = some (.int .u32 (g 7))) (first | go_keep | exact ⟨f0,f1,f2,f3,f4,f5,f6,f7,g0,g1,g2,g3,g4,g5,g6,g7⟩) (first | (go_at_call 19; refine (join_row f (dec g 0) _ _ _ (heap3 _ _ _ _) (by simp [cl, dec])).mono ?_; rintro e w2 ⟨rfl, hb⟩; obtain ⟨f0, f1, f2, f3, f4, f5, f6, f7⟩ := cells8 ((hb.block w.heap.size (by simp; omega)).trans (heap3_0 w (.cells (cl f) 27) _ _)); obtain ⟨g0, g1, g2, g3, g4, g5, g6, g7⟩ := cells8 ((hb.block (w.heap.size + 1) (by simp)).trans (heap3_1 w _ (.cells (cl (dec g 0)) 27) _)); (simp only [dec] at g0 g1 g2 g3 g4 g5 g6 g7); have hB : Below w.heap.size w w2 := (((((Below.refl _ _).alloc (Nat.le_refl _) _).alloc (by simp) _).alloc (by simp; omega) _).drew).trans (hb.mono (by simp; omega)); clear hb; simp only [cl]))
  go_wp2
  go_ret
  exact ⟨rfl, hB⟩
set_option maxHeartbeats 800000 in
theorem due_yes1 (f g : Nat → Int) (hb1 : 0 ≤ g 1 - 1) (hb2 : g 1 - 1 ≤ 4294967295) (hz' : (g 1 == 0) = false) (hq : (g 1 - 1 == f 1) = true) (w : World) :
    Calls Try.prog 21 #[.agg (cl f), .agg (cl g), .int .i64 1] w fun e w' => e = .returned (.bool (fl (join2 f (dec g 1)) == fl f)) ∧ Below w.heap.size w w' := by
  have E := eq_clk (join2 f (dec g 1)) f
  generalize (fl (join2 f (dec g 1)) == fl f) = b at *
  simp only [cl] at E ⊢
  go_enter Try.func21, Try.ntmps21
  go_wp2_with fail
  go_region_held3 (fun w' => w'.cell? ⟨w.heap.size, 0, none⟩ = some (.int .u32 (f 0)) ∧ w'.cell? ⟨w.heap.size, 1, none⟩ = some (.int .u32 (f 1)) ∧ w'.cell? ⟨w.heap.size, 2, none⟩ = some (.int .u32 (f 2)) ∧ w'.cell? ⟨w.heap.size, 3, none⟩ = some (.int .u32 (f 3)) ∧ w'.cell? ⟨w.heap.size, 4, none⟩ = some (.int .u32 (f 4)) ∧ w'.cell? ⟨w.heap.size, 5, none⟩ = some (.int .u32 (f 5)) ∧ w'.cell? ⟨w.heap.size, 6, none⟩ = some (.int .u32 (f 6)) ∧ w'.cell? ⟨w.heap.size, 7, none⟩ = some (.int .u32 (f 7)) ∧ w'.cell? ⟨w.heap.size + 1, 0, none⟩ = some (.int .u32 (g 0)) ∧ w'.cell? ⟨w.heap.size + 1, 1, none⟩ = some (.int .u32 (g 1 - 1)) ∧ w'.cell? ⟨w.heap.size + 1, 2, none⟩ = some (.int .u32 (g 2)) ∧ w'.cell? ⟨w.heap.size + 1, 3, none⟩ = some (.int .u32 (g 3)) ∧ w'.cell? ⟨w.heap.size + 1, 4, none⟩ = some (.int .u32 (g 4)) ∧ w'.cell? ⟨w.heap.size + 1, 5, none⟩ = some (.int .u32 (g 5)) ∧ w'.cell? ⟨w.heap.size + 1, 6, none⟩ = some (.int .u32 (g 6)) ∧ w'.cell? ⟨w.heap.size + 1, 7, none⟩ = some (.int .u32 (g 7))) (first | go_keep | exact ⟨f0,f1,f2,f3,f4,f5,f6,f7,g0,g1,g2,g3,g4,g5,g6,g7⟩) (first | (go_at_call 19; refine (join_row f (dec g 1) _ _ _ (heap3 _ _ _ _) (by simp [cl, dec])).mono ?_; rintro e w2 ⟨rfl, hb⟩; obtain ⟨f0, f1, f2, f3, f4, f5, f6, f7⟩ := cells8 ((hb.block w.heap.size (by simp; omega)).trans (heap3_0 w (.cells (cl f) 27) _ _)); obtain ⟨g0, g1, g2, g3, g4, g5, g6, g7⟩ := cells8 ((hb.block (w.heap.size + 1) (by simp)).trans (heap3_1 w _ (.cells (cl (dec g 1)) 27) _)); (simp only [dec] at g0 g1 g2 g3 g4 g5 g6 g7); have hB : Below w.heap.size w w2 := (((((Below.refl _ _).alloc (Nat.le_refl _) _).alloc (by simp) _).alloc (by simp; omega) _).drew).trans (hb.mono (by simp; omega)); clear hb; simp only [cl]))
  go_wp2
  go_ret
  exact ⟨rfl, hB⟩
set_option maxHeartbeats 800000 in
theorem due_yes2 (f g : Nat → Int) (hb1 : 0 ≤ g 2 - 1) (hb2 : g 2 - 1 ≤ 4294967295) (hz' : (g 2 == 0) = false) (hq : (g 2 - 1 == f 2) = true) (w : World) :
    Calls Try.prog 21 #[.agg (cl f), .agg (cl g), .int .i64 2] w fun e w' => e = .returned (.bool (fl (join2 f (dec g 2)) == fl f)) ∧ Below w.heap.size w w' := by
  have E := eq_clk (join2 f (dec g 2)) f
  generalize (fl (join2 f (dec g 2)) == fl f) = b at *
  simp only [cl] at E ⊢
  go_enter Try.func21, Try.ntmps21
  go_wp2_with fail
  go_region_held3 (fun w' => w'.cell? ⟨w.heap.size, 0, none⟩ = some (.int .u32 (f 0)) ∧ w'.cell? ⟨w.heap.size, 1, none⟩ = some (.int .u32 (f 1)) ∧ w'.cell? ⟨w.heap.size, 2, none⟩ = some (.int .u32 (f 2)) ∧ w'.cell? ⟨w.heap.size, 3, none⟩ = some (.int .u32 (f 3)) ∧ w'.cell? ⟨w.heap.size, 4, none⟩ = some (.int .u32 (f 4)) ∧ w'.cell? ⟨w.heap.size, 5, none⟩ = some (.int .u32 (f 5)) ∧ w'.cell? ⟨w.heap.size, 6, none⟩ = some (.int .u32 (f 6)) ∧ w'.cell? ⟨w.heap.size, 7, none⟩ = some (.int .u32 (f 7)) ∧ w'.cell? ⟨w.heap.size + 1, 0, none⟩ = some (.int .u32 (g 0)) ∧ w'.cell? ⟨w.heap.size + 1, 1, none⟩ = some (.int .u32 (g 1)) ∧ w'.cell? ⟨w.heap.size + 1, 2, none⟩ = some (.int .u32 (g 2 - 1)) ∧ w'.cell? ⟨w.heap.size + 1, 3, none⟩ = some (.int .u32 (g 3)) ∧ w'.cell? ⟨w.heap.size + 1, 4, none⟩ = some (.int .u32 (g 4)) ∧ w'.cell? ⟨w.heap.size + 1, 5, none⟩ = some (.int .u32 (g 5)) ∧ w'.cell? ⟨w.heap.size + 1, 6, none⟩ = some (.int .u32 (g 6)) ∧ w'.cell? ⟨w.heap.size + 1, 7, none⟩ = some (.int .u32 (g 7))) (first | go_keep | exact ⟨f0,f1,f2,f3,f4,f5,f6,f7,g0,g1,g2,g3,g4,g5,g6,g7⟩) (first | (go_at_call 19; refine (join_row f (dec g 2) _ _ _ (heap3 _ _ _ _) (by simp [cl, dec])).mono ?_; rintro e w2 ⟨rfl, hb⟩; obtain ⟨f0, f1, f2, f3, f4, f5, f6, f7⟩ := cells8 ((hb.block w.heap.size (by simp; omega)).trans (heap3_0 w (.cells (cl f) 27) _ _)); obtain ⟨g0, g1, g2, g3, g4, g5, g6, g7⟩ := cells8 ((hb.block (w.heap.size + 1) (by simp)).trans (heap3_1 w _ (.cells (cl (dec g 2)) 27) _)); (simp only [dec] at g0 g1 g2 g3 g4 g5 g6 g7); have hB : Below w.heap.size w w2 := (((((Below.refl _ _).alloc (Nat.le_refl _) _).alloc (by simp) _).alloc (by simp; omega) _).drew).trans (hb.mono (by simp; omega)); clear hb; simp only [cl]))
  go_wp2
  go_ret
  exact ⟨rfl, hB⟩
set_option maxHeartbeats 800000 in
theorem due_yes3 (f g : Nat → Int) (hb1 : 0 ≤ g 3 - 1) (hb2 : g 3 - 1 ≤ 4294967295) (hz' : (g 3 == 0) = false) (hq : (g 3 - 1 == f 3) = true) (w : World) :
    Calls Try.prog 21 #[.agg (cl f), .agg (cl g), .int .i64 3] w fun e w' => e = .returned (.bool (fl (join2 f (dec g 3)) == fl f)) ∧ Below w.heap.size w w' := by
  have E := eq_clk (join2 f (dec g 3)) f
  generalize (fl (join2 f (dec g 3)) == fl f) = b at *
  simp only [cl] at E ⊢
  go_enter Try.func21, Try.ntmps21
  go_wp2_with fail
  go_region_held3 (fun w' => w'.cell? ⟨w.heap.size, 0, none⟩ = some (.int .u32 (f 0)) ∧ w'.cell? ⟨w.heap.size, 1, none⟩ = some (.int .u32 (f 1)) ∧ w'.cell? ⟨w.heap.size, 2, none⟩ = some (.int .u32 (f 2)) ∧ w'.cell? ⟨w.heap.size, 3, none⟩ = some (.int .u32 (f 3)) ∧ w'.cell? ⟨w.heap.size, 4, none⟩ = some (.int .u32 (f 4)) ∧ w'.cell? ⟨w.heap.size, 5, none⟩ = some (.int .u32 (f 5)) ∧ w'.cell? ⟨w.heap.size, 6, none⟩ = some (.int .u32 (f 6)) ∧ w'.cell? ⟨w.heap.size, 7, none⟩ = some (.int .u32 (f 7)) ∧ w'.cell? ⟨w.heap.size + 1, 0, none⟩ = some (.int .u32 (g 0)) ∧ w'.cell? ⟨w.heap.size + 1, 1, none⟩ = some (.int .u32 (g 1)) ∧ w'.cell? ⟨w.heap.size + 1, 2, none⟩ = some (.int .u32 (g 2)) ∧ w'.cell? ⟨w.heap.size + 1, 3, none⟩ = some (.int .u32 (g 3 - 1)) ∧ w'.cell? ⟨w.heap.size + 1, 4, none⟩ = some (.int .u32 (g 4)) ∧ w'.cell? ⟨w.heap.size + 1, 5, none⟩ = some (.int .u32 (g 5)) ∧ w'.cell? ⟨w.heap.size + 1, 6, none⟩ = some (.int .u32 (g 6)) ∧ w'.cell? ⟨w.heap.size + 1, 7, none⟩ = some (.int .u32 (g 7))) (first | go_keep | exact ⟨f0,f1,f2,f3,f4,f5,f6,f7,g0,g1,g2,g3,g4,g5,g6,g7⟩) (first | (go_at_call 19; refine (join_row f (dec g 3) _ _ _ (heap3 _ _ _ _) (by simp [cl, dec])).mono ?_; rintro e w2 ⟨rfl, hb⟩; obtain ⟨f0, f1, f2, f3, f4, f5, f6, f7⟩ := cells8 ((hb.block w.heap.size (by simp; omega)).trans (heap3_0 w (.cells (cl f) 27) _ _)); obtain ⟨g0, g1, g2, g3, g4, g5, g6, g7⟩ := cells8 ((hb.block (w.heap.size + 1) (by simp)).trans (heap3_1 w _ (.cells (cl (dec g 3)) 27) _)); (simp only [dec] at g0 g1 g2 g3 g4 g5 g6 g7); have hB : Below w.heap.size w w2 := (((((Below.refl _ _).alloc (Nat.le_refl _) _).alloc (by simp) _).alloc (by simp; omega) _).drew).trans (hb.mono (by simp; omega)); clear hb; simp only [cl]))
  go_wp2
  go_ret
  exact ⟨rfl, hB⟩
set_option maxHeartbeats 800000 in
theorem due_yes4 (f g : Nat → Int) (hb1 : 0 ≤ g 4 - 1) (hb2 : g 4 - 1 ≤ 4294967295) (hz' : (g 4 == 0) = false) (hq : (g 4 - 1 == f 4) = true) (w : World) :
    Calls Try.prog 21 #[.agg (cl f), .agg (cl g), .int .i64 4] w fun e w' => e = .returned (.bool (fl (join2 f (dec g 4)) == fl f)) ∧ Below w.heap.size w w' := by
  have E := eq_clk (join2 f (dec g 4)) f
  generalize (fl (join2 f (dec g 4)) == fl f) = b at *
  simp only [cl] at E ⊢
  go_enter Try.func21, Try.ntmps21
  go_wp2_with fail
  go_region_held3 (fun w' => w'.cell? ⟨w.heap.size, 0, none⟩ = some (.int .u32 (f 0)) ∧ w'.cell? ⟨w.heap.size, 1, none⟩ = some (.int .u32 (f 1)) ∧ w'.cell? ⟨w.heap.size, 2, none⟩ = some (.int .u32 (f 2)) ∧ w'.cell? ⟨w.heap.size, 3, none⟩ = some (.int .u32 (f 3)) ∧ w'.cell? ⟨w.heap.size, 4, none⟩ = some (.int .u32 (f 4)) ∧ w'.cell? ⟨w.heap.size, 5, none⟩ = some (.int .u32 (f 5)) ∧ w'.cell? ⟨w.heap.size, 6, none⟩ = some (.int .u32 (f 6)) ∧ w'.cell? ⟨w.heap.size, 7, none⟩ = some (.int .u32 (f 7)) ∧ w'.cell? ⟨w.heap.size + 1, 0, none⟩ = some (.int .u32 (g 0)) ∧ w'.cell? ⟨w.heap.size + 1, 1, none⟩ = some (.int .u32 (g 1)) ∧ w'.cell? ⟨w.heap.size + 1, 2, none⟩ = some (.int .u32 (g 2)) ∧ w'.cell? ⟨w.heap.size + 1, 3, none⟩ = some (.int .u32 (g 3)) ∧ w'.cell? ⟨w.heap.size + 1, 4, none⟩ = some (.int .u32 (g 4 - 1)) ∧ w'.cell? ⟨w.heap.size + 1, 5, none⟩ = some (.int .u32 (g 5)) ∧ w'.cell? ⟨w.heap.size + 1, 6, none⟩ = some (.int .u32 (g 6)) ∧ w'.cell? ⟨w.heap.size + 1, 7, none⟩ = some (.int .u32 (g 7))) (first | go_keep | exact ⟨f0,f1,f2,f3,f4,f5,f6,f7,g0,g1,g2,g3,g4,g5,g6,g7⟩) (first | (go_at_call 19; refine (join_row f (dec g 4) _ _ _ (heap3 _ _ _ _) (by simp [cl, dec])).mono ?_; rintro e w2 ⟨rfl, hb⟩; obtain ⟨f0, f1, f2, f3, f4, f5, f6, f7⟩ := cells8 ((hb.block w.heap.size (by simp; omega)).trans (heap3_0 w (.cells (cl f) 27) _ _)); obtain ⟨g0, g1, g2, g3, g4, g5, g6, g7⟩ := cells8 ((hb.block (w.heap.size + 1) (by simp)).trans (heap3_1 w _ (.cells (cl (dec g 4)) 27) _)); (simp only [dec] at g0 g1 g2 g3 g4 g5 g6 g7); have hB : Below w.heap.size w w2 := (((((Below.refl _ _).alloc (Nat.le_refl _) _).alloc (by simp) _).alloc (by simp; omega) _).drew).trans (hb.mono (by simp; omega)); clear hb; simp only [cl]))
  go_wp2
  go_ret
  exact ⟨rfl, hB⟩
set_option maxHeartbeats 800000 in
theorem due_yes5 (f g : Nat → Int) (hb1 : 0 ≤ g 5 - 1) (hb2 : g 5 - 1 ≤ 4294967295) (hz' : (g 5 == 0) = false) (hq : (g 5 - 1 == f 5) = true) (w : World) :
    Calls Try.prog 21 #[.agg (cl f), .agg (cl g), .int .i64 5] w fun e w' => e = .returned (.bool (fl (join2 f (dec g 5)) == fl f)) ∧ Below w.heap.size w w' := by
  have E := eq_clk (join2 f (dec g 5)) f
  generalize (fl (join2 f (dec g 5)) == fl f) = b at *
  simp only [cl] at E ⊢
  go_enter Try.func21, Try.ntmps21
  go_wp2_with fail
  go_region_held3 (fun w' => w'.cell? ⟨w.heap.size, 0, none⟩ = some (.int .u32 (f 0)) ∧ w'.cell? ⟨w.heap.size, 1, none⟩ = some (.int .u32 (f 1)) ∧ w'.cell? ⟨w.heap.size, 2, none⟩ = some (.int .u32 (f 2)) ∧ w'.cell? ⟨w.heap.size, 3, none⟩ = some (.int .u32 (f 3)) ∧ w'.cell? ⟨w.heap.size, 4, none⟩ = some (.int .u32 (f 4)) ∧ w'.cell? ⟨w.heap.size, 5, none⟩ = some (.int .u32 (f 5)) ∧ w'.cell? ⟨w.heap.size, 6, none⟩ = some (.int .u32 (f 6)) ∧ w'.cell? ⟨w.heap.size, 7, none⟩ = some (.int .u32 (f 7)) ∧ w'.cell? ⟨w.heap.size + 1, 0, none⟩ = some (.int .u32 (g 0)) ∧ w'.cell? ⟨w.heap.size + 1, 1, none⟩ = some (.int .u32 (g 1)) ∧ w'.cell? ⟨w.heap.size + 1, 2, none⟩ = some (.int .u32 (g 2)) ∧ w'.cell? ⟨w.heap.size + 1, 3, none⟩ = some (.int .u32 (g 3)) ∧ w'.cell? ⟨w.heap.size + 1, 4, none⟩ = some (.int .u32 (g 4)) ∧ w'.cell? ⟨w.heap.size + 1, 5, none⟩ = some (.int .u32 (g 5 - 1)) ∧ w'.cell? ⟨w.heap.size + 1, 6, none⟩ = some (.int .u32 (g 6)) ∧ w'.cell? ⟨w.heap.size + 1, 7, none⟩ = some (.int .u32 (g 7))) (first | go_keep | exact ⟨f0,f1,f2,f3,f4,f5,f6,f7,g0,g1,g2,g3,g4,g5,g6,g7⟩) (first | (go_at_call 19; refine (join_row f (dec g 5) _ _ _ (heap3 _ _ _ _) (by simp [cl, dec])).mono ?_; rintro e w2 ⟨rfl, hb⟩; obtain ⟨f0, f1, f2, f3, f4, f5, f6, f7⟩ := cells8 ((hb.block w.heap.size (by simp; omega)).trans (heap3_0 w (.cells (cl f) 27) _ _)); obtain ⟨g0, g1, g2, g3, g4, g5, g6, g7⟩ := cells8 ((hb.block (w.heap.size + 1) (by simp)).trans (heap3_1 w _ (.cells (cl (dec g 5)) 27) _)); (simp only [dec] at g0 g1 g2 g3 g4 g5 g6 g7); have hB : Below w.heap.size w w2 := (((((Below.refl _ _).alloc (Nat.le_refl _) _).alloc (by simp) _).alloc (by simp; omega) _).drew).trans (hb.mono (by simp; omega)); clear hb; simp only [cl]))
  go_wp2
  go_ret
  exact ⟨rfl, hB⟩
set_option maxHeartbeats 800000 in
theorem due_yes6 (f g : Nat → Int) (hb1 : 0 ≤ g 6 - 1) (hb2 : g 6 - 1 ≤ 4294967295) (hz' : (g 6 == 0) = false) (hq : (g 6 - 1 == f 6) = true) (w : World) :
    Calls Try.prog 21 #[.agg (cl f), .agg (cl g), .int .i64 6] w fun e w' => e = .returned (.bool (fl (join2 f (dec g 6)) == fl f)) ∧ Below w.heap.size w w' := by
  have E := eq_clk (join2 f (dec g 6)) f
  generalize (fl (join2 f (dec g 6)) == fl f) = b at *
  simp only [cl] at E ⊢
  go_enter Try.func21, Try.ntmps21
  go_wp2_with fail
  go_region_held3 (fun w' => w'.cell? ⟨w.heap.size, 0, none⟩ = some (.int .u32 (f 0)) ∧ w'.cell? ⟨w.heap.size, 1, none⟩ = some (.int .u32 (f 1)) ∧ w'.cell? ⟨w.heap.size, 2, none⟩ = some (.int .u32 (f 2)) ∧ w'.cell? ⟨w.heap.size, 3, none⟩ = some (.int .u32 (f 3)) ∧ w'.cell? ⟨w.heap.size, 4, none⟩ = some (.int .u32 (f 4)) ∧ w'.cell? ⟨w.heap.size, 5, none⟩ = some (.int .u32 (f 5)) ∧ w'.cell? ⟨w.heap.size, 6, none⟩ = some (.int .u32 (f 6)) ∧ w'.cell? ⟨w.heap.size, 7, none⟩ = some (.int .u32 (f 7)) ∧ w'.cell? ⟨w.heap.size + 1, 0, none⟩ = some (.int .u32 (g 0)) ∧ w'.cell? ⟨w.heap.size + 1, 1, none⟩ = some (.int .u32 (g 1)) ∧ w'.cell? ⟨w.heap.size + 1, 2, none⟩ = some (.int .u32 (g 2)) ∧ w'.cell? ⟨w.heap.size + 1, 3, none⟩ = some (.int .u32 (g 3)) ∧ w'.cell? ⟨w.heap.size + 1, 4, none⟩ = some (.int .u32 (g 4)) ∧ w'.cell? ⟨w.heap.size + 1, 5, none⟩ = some (.int .u32 (g 5)) ∧ w'.cell? ⟨w.heap.size + 1, 6, none⟩ = some (.int .u32 (g 6 - 1)) ∧ w'.cell? ⟨w.heap.size + 1, 7, none⟩ = some (.int .u32 (g 7))) (first | go_keep | exact ⟨f0,f1,f2,f3,f4,f5,f6,f7,g0,g1,g2,g3,g4,g5,g6,g7⟩) (first | (go_at_call 19; refine (join_row f (dec g 6) _ _ _ (heap3 _ _ _ _) (by simp [cl, dec])).mono ?_; rintro e w2 ⟨rfl, hb⟩; obtain ⟨f0, f1, f2, f3, f4, f5, f6, f7⟩ := cells8 ((hb.block w.heap.size (by simp; omega)).trans (heap3_0 w (.cells (cl f) 27) _ _)); obtain ⟨g0, g1, g2, g3, g4, g5, g6, g7⟩ := cells8 ((hb.block (w.heap.size + 1) (by simp)).trans (heap3_1 w _ (.cells (cl (dec g 6)) 27) _)); (simp only [dec] at g0 g1 g2 g3 g4 g5 g6 g7); have hB : Below w.heap.size w w2 := (((((Below.refl _ _).alloc (Nat.le_refl _) _).alloc (by simp) _).alloc (by simp; omega) _).drew).trans (hb.mono (by simp; omega)); clear hb; simp only [cl]))
  go_wp2
  go_ret
  exact ⟨rfl, hB⟩
set_option maxHeartbeats 800000 in
theorem due_yes7 (f g : Nat → Int) (hb1 : 0 ≤ g 7 - 1) (hb2 : g 7 - 1 ≤ 4294967295) (hz' : (g 7 == 0) = false) (hq : (g 7 - 1 == f 7) = true) (w : World) :
    Calls Try.prog 21 #[.agg (cl f), .agg (cl g), .int .i64 7] w fun e w' => e = .returned (.bool (fl (join2 f (dec g 7)) == fl f)) ∧ Below w.heap.size w w' := by
  have E := eq_clk (join2 f (dec g 7)) f
  generalize (fl (join2 f (dec g 7)) == fl f) = b at *
  simp only [cl] at E ⊢
  go_enter Try.func21, Try.ntmps21
  go_wp2_with fail
  go_region_held3 (fun w' => w'.cell? ⟨w.heap.size, 0, none⟩ = some (.int .u32 (f 0)) ∧ w'.cell? ⟨w.heap.size, 1, none⟩ = some (.int .u32 (f 1)) ∧ w'.cell? ⟨w.heap.size, 2, none⟩ = some (.int .u32 (f 2)) ∧ w'.cell? ⟨w.heap.size, 3, none⟩ = some (.int .u32 (f 3)) ∧ w'.cell? ⟨w.heap.size, 4, none⟩ = some (.int .u32 (f 4)) ∧ w'.cell? ⟨w.heap.size, 5, none⟩ = some (.int .u32 (f 5)) ∧ w'.cell? ⟨w.heap.size, 6, none⟩ = some (.int .u32 (f 6)) ∧ w'.cell? ⟨w.heap.size, 7, none⟩ = some (.int .u32 (f 7)) ∧ w'.cell? ⟨w.heap.size + 1, 0, none⟩ = some (.int .u32 (g 0)) ∧ w'.cell? ⟨w.heap.size + 1, 1, none⟩ = some (.int .u32 (g 1)) ∧ w'.cell? ⟨w.heap.size + 1, 2, none⟩ = some (.int .u32 (g 2)) ∧ w'.cell? ⟨w.heap.size + 1, 3, none⟩ = some (.int .u32 (g 3)) ∧ w'.cell? ⟨w.heap.size + 1, 4, none⟩ = some (.int .u32 (g 4)) ∧ w'.cell? ⟨w.heap.size + 1, 5, none⟩ = some (.int .u32 (g 5)) ∧ w'.cell? ⟨w.heap.size + 1, 6, none⟩ = some (.int .u32 (g 6)) ∧ w'.cell? ⟨w.heap.size + 1, 7, none⟩ = some (.int .u32 (g 7 - 1))) (first | go_keep | exact ⟨f0,f1,f2,f3,f4,f5,f6,f7,g0,g1,g2,g3,g4,g5,g6,g7⟩) (first | (go_at_call 19; refine (join_row f (dec g 7) _ _ _ (heap3 _ _ _ _) (by simp [cl, dec])).mono ?_; rintro e w2 ⟨rfl, hb⟩; obtain ⟨f0, f1, f2, f3, f4, f5, f6, f7⟩ := cells8 ((hb.block w.heap.size (by simp; omega)).trans (heap3_0 w (.cells (cl f) 27) _ _)); obtain ⟨g0, g1, g2, g3, g4, g5, g6, g7⟩ := cells8 ((hb.block (w.heap.size + 1) (by simp)).trans (heap3_1 w _ (.cells (cl (dec g 7)) 27) _)); (simp only [dec] at g0 g1 g2 g3 g4 g5 g6 g7); have hB : Below w.heap.size w w2 := (((((Below.refl _ _).alloc (Nat.le_refl _) _).alloc (by simp) _).alloc (by simp; omega) _).drew).trans (hb.mono (by simp; omega)); clear hb; simp only [cl]))
  go_wp2
  go_ret
  exact ⟨rfl, hB⟩

theorem due_in (f g : Nat → Int) (hg : U32 g) (a : Nat) (ha : a < 8) (w : World) :
    Calls Try.prog 21 #[.agg (cl f), .agg (cl g), .int .i64 a] w fun e w' => e = .returned (.bool (dueOf f g a)) ∧ Below w.heap.size w w' := by
  by_cases hz : g a = 0
  · have h : dueOf f g a = false := by simp [dueOf, hz]
    rw [h]; exact due_zero f g a ha hz w
  · have hz' : (g a == 0) = false := by simp [hz]
    have hb1 : 0 ≤ g a - 1 := by have := (hg a).1; omega
    have hb2 : g a - 1 ≤ 4294967295 := by have := (hg a).2; omega
    by_cases hq : g a - 1 = f a
    · have hq' : (g a - 1 == f a) = true := by simp [hq]
      have h : dueOf f g a = (fl (join2 f (dec g a)) == fl f) := by simp [dueOf, hz, hq]
      rw [h]
      rcases (by omega : a = 0 ∨ a = 1 ∨ a = 2 ∨ a = 3 ∨ a = 4 ∨ a = 5 ∨ a = 6 ∨ a = 7) with rfl | rfl | rfl | rfl | rfl | rfl | rfl | rfl
      · exact due_yes0 f g hb1 hb2 hz' hq' w
      · exact due_yes1 f g hb1 hb2 hz' hq' w
      · exact due_yes2 f g hb1 hb2 hz' hq' w
      · exact due_yes3 f g hb1 hb2 hz' hq' w
      · exact due_yes4 f g hb1 hb2 hz' hq' w
      · exact due_yes5 f g hb1 hb2 hz' hq' w
      · exact due_yes6 f g hb1 hb2 hz' hq' w
      · exact due_yes7 f g hb1 hb2 hz' hq' w
    · have hq' : (g a - 1 == f a) = false := by simp [hq]
      have h : dueOf f g a = false := by simp [dueOf, hq]
      rw [h]
      rcases (by omega : a = 0 ∨ a = 1 ∨ a = 2 ∨ a = 3 ∨ a = 4 ∨ a = 5 ∨ a = 6 ∨ a = 7) with rfl | rfl | rfl | rfl | rfl | rfl | rfl | rfl
      · exact due_not0 f g hb1 hb2 hz' hq' w
      · exact due_not1 f g hb1 hb2 hz' hq' w
      · exact due_not2 f g hb1 hb2 hz' hq' w
      · exact due_not3 f g hb1 hb2 hz' hq' w
      · exact due_not4 f g hb1 hb2 hz' hq' w
      · exact due_not5 f g hb1 hb2 hz' hq' w
      · exact due_not6 f g hb1 hb2 hz' hq' w
      · exact due_not7 f g hb1 hb2 hz' hq' w

theorem due_any (f g : Nat → Int) (hg : U32 g) (a : Int) (w : World) :
    Calls Try.prog 21 #[.agg (cl f), .agg (cl g), .int .i64 a] w fun e w' => e = .returned (.bool (dueB f g a)) ∧ Below w.heap.size w w' := by
  by_cases ha : a < 0 ∨ 8 ≤ a
  · have h : dueB f g a = false := by simp [dueB, ha]
    rw [h]; exact due_out f g a ha w
  · have h : dueB f g a = dueOf f g a.toNat := by simp [dueB, ha]
    obtain ⟨n, rfl⟩ := Int.eq_ofNat_of_zero_le (show 0 ≤ a by omega)
    rw [h, Int.toNat_natCast]; exact due_in f g hg n (by omega) w
end Go.Proofs.Ytiionogafaegkaa
