/-
  clock.Lacks, by its text: the spans that somebody lacks, in a slice of its own.
-/
import Derived.Test.YtiionogafaegkaaOrder
namespace Go.Proofs.Ytiionogafaegkaa
open Go.RowKit
def spanCells (f g : Nat → Int) (j : Nat) : List Value := if f j < g j then [.int .i64 j, .int .u32 (f j + 1), .int .u32 (g j)] else []
def lacksTo (f g : Nat → Int) : Nat → List Value
  | 0 => []
  | k + 1 => lacksTo f g k ++ spanCells f g k
def lacksN (f g : Nat → Int) : Nat → Nat
  | 0 => 0
  | k + 1 => lacksN f g k + if f k < g k then 1 else 0
theorem lacksN_le (f g : Nat → Int) (k : Nat) : lacksN f g k ≤ k := by
  induction k with
  | zero => simp [lacksN]
  | succ k ih => unfold lacksN; split <;> omega
theorem info_span : (Try.prog.info? 39).map (fun i => (i.zero, i.size, i.bytes)) = some (some (.agg #[.int .i64 0, .int .u32 0, .int .u32 0]), 3, 16) := by kernel_rfl
def U32 (f : Nat → Int) : Prop := ∀ j, 0 ≤ f j ∧ f j ≤ 4294967295

theorem cl_cell {w : World} {b : Nat} {f : Nat → Int} (h : w.heap[b]? = some (.cells (cl f) 27 (0, 0))) {j : Nat} (hj : j < 8) : w.cell? ⟨b, j, none⟩ = some (.int .u32 (f j)) := by
  rw [cell_of_row _ _ _ _ _ _ h]; exact cl_at f j hj
/-- what the loop of Lacks keeps -/
structure LRel (w : World) (f g : Nat → Int) (k : Nat) (v : Value) (wr : World) : Prop where
  own : wr.ownsRow (w.heap.size + 2) 39 3 v (lacksN f g k) (lacksTo f g k)
  box : wr.heap[w.heap.size]? = some (.cells (cl f) 27 (0, 0))
  below : Below w.heap.size w wr
  size : w.heap.size + 2 ≤ wr.heap.size
theorem LRel.start (w : World) (f g : Nat → Int) : LRel w f g 0 (.slice none 0 0) ((w.alloc (.cells (cl f) 27)).alloc (.cells (cl g) 27)) :=
  ⟨own_nil _ _ _ _, heap_alloc2_old _ _ _, ((Below.refl _ _).alloc (Nat.le_refl _) _).alloc (by simp) _, by simp⟩
theorem LRel.same {w : World} {f g : Nat → Int} {k : Nat} {v : Value} {wr : World} (h : LRel w f g k v wr) (hk : ¬ f k < g k) : LRel w f g (k + 1) v wr :=
  ⟨by simpa [lacksN, lacksTo, spanCells, hk] using h.own, h.box, h.below, h.size⟩
theorem LRel.more {w : World} {f g : Nat → Int} {k : Nat} {v v' : Value} {wr w1 : World} {o : Obj} (h : LRel w f g k v wr) (hk : f k < g k)
    (hown : w1.ownsRow (w.heap.size + 2) 39 3 v' (lacksN f g k + 1) (lacksTo f g k ++ [.int .i64 k, .int .u32 (f k + 1), .int .u32 (g k)])) (hgrow : (wr.alloc o).grownBy w1 v.ownBlock) : LRel w f g (k + 1) v' w1 := by
  have hb := own_base h.own
  have hs := h.size
  have hsz := hgrow.size
  simp at hsz
  refine ⟨by simpa [lacksN, lacksTo, spanCells, hk] using hown, ?_, ?_, by omega⟩
  · rw [hgrow.block _ (by simp; omega) (fun e => by have := hb _ e.symm; omega), Below.heap_alloc _ _ _ (by omega)]; exact h.box
  · exact (h.below.alloc (by omega) o).grown hgrow (by simp; omega) (fun r hr => by have := hb r hr; omega)

set_option maxHeartbeats 400000 in
theorem lacks_any (f g : Nat → Int) (hf : U32 f) (hg : U32 g) (w : World) :
    Calls Try.prog 15 #[.agg (cl f), .agg (cl g)] w fun e w' => ∃ v, e = .returned v ∧ LRel w f g 8 v w' := by
  obtain ⟨i0, hi, hz0, hz1, hz2⟩ := info_parts info_span
  have hstart := LRel.start w f g
  have HS := hide hstart
  clear hstart
  simp only [cl]
  go_enter Try.func15, Try.ntmps15
  go_wp2
  go_loopw [5, 9] (fun v i wr => ∃ k : Nat, k ≤ 8 ∧ i = .int .i64 k ∧ LRel w f g k v wr) (fun _ i _ => 8 - (intOf i).toNat)
  case atStart => exact ⟨0, by omega, rfl, HS.out⟩
  case round =>
    clear HS
    obtain ⟨k, hk, rfl, hrel⟩ := hrel
    by_cases hlt : k < 8
    · have hi := fun W => idx_agg g k hlt W
      simp only [cl] at hi
      have hcell := cl_cell hrel.box hlt
      by_cases hfg : f k < g k
      · have hb1 := (hf k).1
        have hb2 : f k + 1 ≤ 4294967295 := by have := (hg k).2; omega
        have hN := lacksN_le f g k
        have hown := hrel.own
        have hsz := hrel.size
        go_wp2_with (at_builtin; refine wpList_append_own _ rfl _ _ 36 rfl (w.heap.size + 2) 39 i0 (.agg #[.int .i64 0, .int .u32 0, .int .u32 0]) 3 16 Try.underlying36 (by assumption) hz0 hz1 hz2 rfl (by decide) _ _ _ rfl (hown.alloc _) ⟨wr.heap.size, 0, none⟩ 1 1 [.int .i64 k, .int .u32 (f k + 1), .int .u32 (g k)] rfl rfl ?c1 ?c2 ?c3 ?c4 ?c5 ?_)
        case c1 => exact news_new _ _ _
        case c2 => simp [Value.oneCell']
        case c3 => unfold maxLen; omega
        case c4 => omega
        case c5 => simp; omega
        intro v' w1 hown1 hgrow _
        have hrel1 := hrel.more hfg hown1 hgrow
        clear hown1 hgrow hown hcell hrel hi hsz
        go_wp2
        go_roundw
        case rel => exact ⟨k + 1, by omega, by go_num, hrel1⟩
        case measure => simp [intOf]; omega
      · go_wp2
        go_roundw
        case rel => exact ⟨k + 1, by omega, by go_num, hrel.same hfg⟩
        case measure => simp [intOf]; omega
    · have : k = 8 := by omega
      subst this
      go_wp2
      go_ret
      exact ⟨_, rfl, hrel⟩
end Go.Proofs.Ytiionogafaegkaa
