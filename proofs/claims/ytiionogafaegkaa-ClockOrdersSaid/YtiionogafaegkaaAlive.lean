/-
  alive, by the statement text: true, in whatever world.
-/
import Derived.Test.YtiionogafaegkaaDue
import Derived.Test.YtiionogafaegkaaMost
namespace Go.Proofs.Ytiionogafaegkaa
open Go.RowKit
/-- a clock written out -/
def clk (l : List Int) : Nat → Int := fun i => l.getD i 0
theorem u32_clk (l : List Int) (h : ∀ x ∈ l, 0 ≤ x ∧ x ≤ 4294967295) : U32 (clk l) := by
  intro j
  unfold clk
  by_cases hj : j < l.length
  · have e : l.getD j 0 = l[j] := by simp [List.getElem?_eq_getElem hj]
    rw [e]; exact h _ (List.getElem_mem hj)
  · have e : l.getD j 0 = 0 := by simp [List.getElem?_eq_none (show l.length ≤ j by omega)]
    rw [e]; omega

theorem lacks_lit (W : World) : Calls Try.prog 15 #[.agg #[.int .u32 1, .int .u32 4, .int .u32 0, .int .u32 0, .int .u32 0, .int .u32 0, .int .u32 0, .int .u32 0], .agg #[.int .u32 3, .int .u32 2, .int .u32 0, .int .u32 0, .int .u32 0, .int .u32 0, .int .u32 0, .int .u32 0]] W
    fun e w' => ∃ v, e = .returned v ∧ LRel W (clk [1, 4]) (clk [3, 2]) 8 v w' := lacks_any (clk [1, 4]) (clk [3, 2]) (u32_clk _ (by decide)) (u32_clk _ (by decide)) W
theorem order1_lit (W : World) : Calls Try.prog 17 #[.agg #[.int .u32 1, .int .u32 0, .int .u32 0, .int .u32 0, .int .u32 0, .int .u32 0, .int .u32 0, .int .u32 0], .agg #[.int .u32 1, .int .u32 2, .int .u32 0, .int .u32 0, .int .u32 0, .int .u32 0, .int .u32 0, .int .u32 0]] W
    fun e w' => e = .returned (.int .i64 (-1)) ∧ Below W.heap.size W w' := by
  have h := order_any (clk [1]) (clk [1, 2]) W
  rw [show orderOf (clk [1]) (clk [1, 2]) = -1 by decide] at h
  exact h
theorem order2_lit (W : World) : Calls Try.prog 17 #[.agg #[.int .u32 1, .int .u32 0, .int .u32 0, .int .u32 0, .int .u32 0, .int .u32 0, .int .u32 0, .int .u32 0], .agg #[.int .u32 0, .int .u32 1, .int .u32 0, .int .u32 0, .int .u32 0, .int .u32 0, .int .u32 0, .int .u32 0]] W
    fun e w' => e = .returned (.int .i64 2) ∧ Below W.heap.size W w' := by
  have h := order_any (clk [1]) (clk [0, 1]) W
  rw [show orderOf (clk [1]) (clk [0, 1]) = 2 by decide] at h
  exact h
theorem order3_lit (W : World) : Calls Try.prog 17 #[.agg #[.int .u32 1, .int .u32 2, .int .u32 0, .int .u32 0, .int .u32 0, .int .u32 0, .int .u32 0, .int .u32 0], .agg #[.int .u32 1, .int .u32 0, .int .u32 0, .int .u32 0, .int .u32 0, .int .u32 0, .int .u32 0, .int .u32 0]] W
    fun e w' => e = .returned (.int .i64 1) ∧ Below W.heap.size W w' := by
  have h := order_any (clk [1, 2]) (clk [1]) W
  rw [show orderOf (clk [1, 2]) (clk [1]) = 1 by decide] at h
  exact h
theorem due_lit (W : World) : Calls Try.prog 21 #[.agg #[.int .u32 1, .int .u32 0, .int .u32 0, .int .u32 0, .int .u32 0, .int .u32 0, .int .u32 0, .int .u32 0], .agg #[.int .u32 1, .int .u32 1, .int .u32 0, .int .u32 0, .int .u32 0, .int .u32 0, .int .u32 0, .int .u32 0], .int .i64 1] W
    fun e w' => e = .returned (.bool true) ∧ Below W.heap.size W w' := by
  have h := due_any (clk [1]) (clk [1, 1]) (u32_clk _ (by decide)) 1 W
  rw [show dueB (clk [1]) (clk [1, 1]) 1 = true by decide] at h
  exact h
theorem join_lit (b : Nat) (X : World) (hX : X.heap[b]? = some (.cells (cl (clk [1]) ++ cl (clk [0, 1])) 27 (0, 0))) : Calls Try.prog 19 #[.slice (some ⟨b, 0, none⟩) 2 2] X
    fun e w' => e = .returned (.agg #[.int .u32 1, .int .u32 1, .int .u32 0, .int .u32 0, .int .u32 0, .int .u32 0, .int .u32 0, .int .u32 0]) ∧ Below X.heap.size X w' := by
  refine (join_row (clk [1]) (clk [0, 1]) b _ X hX rfl).mono ?_
  rintro e w' ⟨rfl, hb⟩
  exact ⟨rfl, hb⟩

theorem eqIn_clk (f g : Nat → Int) (W : World) : (Op.equalIn 10000 27 (.agg (cl f)) (.agg (cl g))).run Try.prog W = .ok (fl f == fl g) W := by
  rw [cl_fl, cl_fl]
  obtain ⟨i, hi, h1⟩ : ∃ i, Try.prog.info? 25 = some i ∧ i.size = 1 := ⟨_, rfl, by kernel_rfl⟩
  exact run_equalIn_ints 9998 27 25 8 .u32 .u32 i _ _ Try.underlying27 Try.underlying25 hi h1 rfl rfl W
theorem eq_lit (W : World) : (Op.equalIn 10000 27 (.agg #[.int .u32 1, .int .u32 1, .int .u32 0, .int .u32 0, .int .u32 0, .int .u32 0, .int .u32 0, .int .u32 0]) (.agg #[.int .u32 1, .int .u32 1, .int .u32 0, .int .u32 0, .int .u32 0, .int .u32 0, .int .u32 0, .int .u32 0])).run Try.prog W = .ok true W :=
  eqIn_clk (clk [1, 1]) (clk [1, 1]) W

/-- what alive keeps: three clocks, and the spans -/
structure AL (w : World) (g : Nat) (X : World) : Prop where
  b0 : X.heap[w.heap.size]? = some (.cells (cl (clk [1])) 27 (0, 0))
  b1 : X.heap[w.heap.size + 1]? = some (.cells (cl (clk [1, 2])) 27 (0, 0))
  b2 : X.heap[w.heap.size + 1 + 1]? = some (.cells (cl (clk [0, 1])) 27 (0, 0))
  g0 : X.cell? ⟨g, 0, none⟩ = some (.int .i64 0)
  g1 : X.cell? ⟨g, 1, none⟩ = some (.int .u32 2)
  g2 : X.cell? ⟨g, 2, none⟩ = some (.int .u32 3)
  below : Below w.heap.size w X
  gs : g < X.heap.size
  size : w.heap.size + 3 ≤ X.heap.size
theorem AL.next {w X X' : World} {g : Nat} (h : AL w g X) (hb : Below X.heap.size X X') : AL w g X' :=
  ⟨(hb.block _ (by have := h.size; omega)).trans h.b0, (hb.block _ (by have := h.size; omega)).trans h.b1, (hb.block _ (by have := h.size; omega)).trans h.b2,
   (hb.cell (p := ⟨g, 0, none⟩) h.gs).trans h.g0, (hb.cell (p := ⟨g, 1, none⟩) h.gs).trans h.g1, (hb.cell (p := ⟨g, 2, none⟩) h.gs).trans h.g2,
   h.below.trans (hb.mono (by have := h.size; omega)), by have := h.gs; have := hb.size; omega, by have := h.size; have := hb.size; omega⟩
theorem AL.start {w : World} {v : Value} {X : World} (h : LRel (((w.alloc (.cells (cl (clk [1])) 27)).alloc (.cells (cl (clk [1, 2])) 27)).alloc (.cells (cl (clk [0, 1])) 27)) (clk [1, 4]) (clk [3, 2]) 8 v X) :
    ∃ g cap, v = .slice (some ⟨g, 0, none⟩) 1 cap ∧ AL w g X := by
  have hown := h.own
  have hN : lacksN (clk [1, 4]) (clk [3, 2]) 8 = 1 := by decide
  have hT : lacksTo (clk [1, 4]) (clk [3, 2]) 8 = [.int .i64 0, .int .u32 2, .int .u32 3] := by simp [lacksTo, spanCells, clk]
  rw [hN, hT] at hown
  have hsz := h.size
  simp at hsz
  rcases hown.2 with ⟨_, h0⟩ | ⟨g, cap, cur, hv, hg, hh, hc, _, hcs, ht⟩
  · cases h0
  · have hl : g < X.heap.size := by
      rcases Nat.lt_or_ge g X.heap.size with hlt | hge
      · exact hlt
      · rw [Array.getElem?_eq_none hge] at hh; cases hh
    have hcell : ∀ j, j < 3 → X.cell? ⟨g, j, none⟩ = ([.int .i64 0, .int .u32 2, .int .u32 3] : List Value)[j]? := by
      intro j hj
      rw [cell_of_row _ _ _ _ _ _ hh, ← ht]
      simp [hj]
    refine ⟨g, cap, hv, (h.below.block _ (by simp only [World.size_alloc]; omega)).trans ?_, (h.below.block _ (by simp only [World.size_alloc]; omega)).trans ?_, (h.below.block _ (by simp only [World.size_alloc]; omega)).trans ?_, hcell 0 (by omega), hcell 1 (by omega), hcell 2 (by omega), ?_, hl, by omega⟩
    · rw [Below.heap_alloc _ _ _ (by simp only [World.size_alloc]; omega)]; exact heap_alloc2_old _ _ _
    · rw [Below.heap_alloc _ _ _ (by simp only [World.size_alloc]; omega)]; exact heap_alloc2_new _ _ _
    · have := heap_alloc_new ((w.alloc (.cells (cl (clk [1])) 27)).alloc (.cells (cl (clk [1, 2])) 27)) (.cells (cl (clk [0, 1])) 27)
      simpa using this
    · exact ((((Below.refl _ _).alloc (Nat.le_refl _) _).alloc (by simp) _).alloc (by simp; omega) _).trans (h.below.mono (by simp; omega))

set_option maxHeartbeats 800000 in
set_option maxRecDepth 100000 in
theorem alive_any (w : World) : Calls Try.prog 8 #[] w fun e w' => e = .returned (.bool true) ∧ Below w.heap.size w w' := by
  go_enter Try.func8, Try.ntmps8
  go_wp2_with fail
  refine (lacks_lit _).mono ?_
  rintro e X ⟨v, rfl, hL⟩
  obtain ⟨g, cap, rfl, hA⟩ := AL.start hL
  clear hL
  obtain ⟨c0, c1, c2, c3, c4, c5, c6, c7⟩ := cells8 hA.b0
  obtain ⟨d0, d1, d2, d3, d4, d5, d6, d7⟩ := cells8 hA.b1
  obtain ⟨e0, e1, e2, e3, e4, e5, e6, e7⟩ := cells8 hA.b2
  simp only [clk, List.getD_cons_zero, List.getD_cons_succ, List.getD_nil] at c0 c1 c2 c3 c4 c5 c6 c7 d0 d1 d2 d3 d4 d5 d6 d7 e0 e1 e2 e3 e4 e5 e6 e7
  go_wp2_with fail
  refine (order1_lit _).mono ?_
  clear c0 c1 c2 c3 c4 c5 c6 c7 d0 d1 d2 d3 d4 d5 d6 d7 e0 e1 e2 e3 e4 e5 e6 e7
  rintro e X1 ⟨rfl, hb⟩
  replace hA := hA.next hb
  clear hb
  obtain ⟨c0, c1, c2, c3, c4, c5, c6, c7⟩ := cells8 hA.b0
  obtain ⟨d0, d1, d2, d3, d4, d5, d6, d7⟩ := cells8 hA.b1
  obtain ⟨e0, e1, e2, e3, e4, e5, e6, e7⟩ := cells8 hA.b2
  simp only [clk, List.getD_cons_zero, List.getD_cons_succ, List.getD_nil] at c0 c1 c2 c3 c4 c5 c6 c7 d0 d1 d2 d3 d4 d5 d6 d7 e0 e1 e2 e3 e4 e5 e6 e7
  go_wp2_with fail
  refine (order2_lit _).mono ?_
  clear c0 c1 c2 c3 c4 c5 c6 c7 d0 d1 d2 d3 d4 d5 d6 d7 e0 e1 e2 e3 e4 e5 e6 e7
  rintro e X2 ⟨rfl, hb⟩
  replace hA := hA.next hb
  clear hb
  obtain ⟨c0, c1, c2, c3, c4, c5, c6, c7⟩ := cells8 hA.b0
  obtain ⟨d0, d1, d2, d3, d4, d5, d6, d7⟩ := cells8 hA.b1
  obtain ⟨e0, e1, e2, e3, e4, e5, e6, e7⟩ := cells8 hA.b2
  simp only [clk, List.getD_cons_zero, List.getD_cons_succ, List.getD_nil] at c0 c1 c2 c3 c4 c5 c6 c7 d0 d1 d2 d3 d4 d5 d6 d7 e0 e1 e2 e3 e4 e5 e6 e7
  go_wp2_with fail
  refine (order3_lit _).mono ?_
  clear c0 c1 c2 c3 c4 c5 c6 c7 d0 d1 d2 d3 d4 d5 d6 d7 e0 e1 e2 e3 e4 e5 e6 e7
  rintro e X3 ⟨rfl, hb⟩
  replace hA := hA.next hb
  clear hb
  obtain ⟨c0, c1, c2, c3, c4, c5, c6, c7⟩ := cells8 hA.b0
  obtain ⟨d0, d1, d2, d3, d4, d5, d6, d7⟩ := cells8 hA.b1
  obtain ⟨e0, e1, e2, e3, e4, e5, e6, e7⟩ := cells8 hA.b2
  simp only [clk, List.getD_cons_zero, List.getD_cons_succ, List.getD_nil] at c0 c1 c2 c3 c4 c5 c6 c7 d0 d1 d2 d3 d4 d5 d6 d7 e0 e1 e2 e3 e4 e5 e6 e7
  go_wp2_with fail
  refine (join_lit _ _ (heap_alloc_new _ _)).mono ?_
  clear c0 c1 c2 c3 c4 c5 c6 c7 d0 d1 d2 d3 d4 d5 d6 d7 e0 e1 e2 e3 e4 e5 e6 e7
  rintro e X4 ⟨rfl, hb⟩
  replace hA := (hA.next ((Below.refl _ _).alloc (Nat.le_refl _) _)).next hb
  clear hb
  obtain ⟨c0, c1, c2, c3, c4, c5, c6, c7⟩ := cells8 hA.b0
  obtain ⟨d0, d1, d2, d3, d4, d5, d6, d7⟩ := cells8 hA.b1
  obtain ⟨e0, e1, e2, e3, e4, e5, e6, e7⟩ := cells8 hA.b2
  simp only [clk, List.getD_cons_zero, List.getD_cons_succ, List.getD_nil] at c0 c1 c2 c3 c4 c5 c6 c7 d0 d1 d2 d3 d4 d5 d6 d7 e0 e1 e2 e3 e4 e5 e6 e7
  have q := eq_lit
  have s0 := hA.g0
  have s1 := hA.g1
  have s2 := hA.g2
  go_wp2_with fail
  refine (due_lit _).mono ?_
  rintro e X5 ⟨rfl, hb⟩
  replace hA := hA.next hb
  go_wp2
  go_ret
  exact ⟨rfl, hA.below⟩
end Go.Proofs.Ytiionogafaegkaa
