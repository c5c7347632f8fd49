/-
  clock.Join, by its text: for however many clocks it answers, place by place, the greatest number; what was there stays as it was.
-/
import Derived.Test.YtiionogafaegkaaArr
import Derived.Test.YtiionogafaegkaaProg
namespace Go.Proofs.Ytiionogafaegkaa
open Go.RowKit

/-- eight cells -/
def cl (f : Nat → Int) : Array Value := #[.int .u32 (f 0), .int .u32 (f 1), .int .u32 (f 2), .int .u32 (f 3), .int .u32 (f 4), .int .u32 (f 5), .int .u32 (f 6), .int .u32 (f 7)]
def joinTo (C : Nat → Nat → Int) : Nat → Nat → Int
  | 0, _ => 0
  | k + 1, j => max (joinTo C k j) (C k j)

theorem cl_size (f : Nat → Int) : (cl f).size = 8 := rfl
theorem cl_at (f : Nat → Int) (j : Nat) (h : j < 8) : (cl f)[j]? = some (.int .u32 (f j)) := by
  rcases (by omega : j = 0 ∨ j = 1 ∨ j = 2 ∨ j = 3 ∨ j = 4 ∨ j = 5 ∨ j = 6 ∨ j = 7) with rfl | rfl | rfl | rfl | rfl | rfl | rfl | rfl <;> rfl

theorem idx_agg (f : Nat → Int) (j : Nat) (h : j < 8) (W : World) :
    (Instr.index 27 (.agg (cl f)) (.int .i64 j)).run Try.prog W = .ok (.int .u32 (f j)) W := by
  rcases (by omega : j = 0 ∨ j = 1 ∨ j = 2 ∨ j = 3 ∨ j = 4 ∨ j = 5 ∨ j = 6 ∨ j = 7) with rfl | rfl | rfl | rfl | rfl | rfl | rfl | rfl <;> kernel_rfl

theorem cl_congr {f g : Nat → Int} (h : ∀ j, j < 8 → f j = g j) : cl f = cl g := by
  simp [cl, h]
structure JR (w : World) (f : Nat → Int) (wr : World) : Prop where
  below : Below w.heap.size w wr
  size : w.heap.size + 2 ≤ wr.heap.size
  zero : ∃ z, wr.heap[w.heap.size]? = some (.cells (cl z) 27 (0, 0))
  row : wr.heap[w.heap.size + 1]? = some (.cells (cl f) 27 (0, 0))
def mix (j : Nat) (f g : Nat → Int) : Nat → Int := fun i => if i < j then max (f i) (g i) else f i
theorem JR.alloc {w wr : World} {f : Nat → Int} (h : JR w f wr) (o : Obj) : JR w f (wr.alloc o) :=
  ⟨h.below.alloc (by have := h.size; omega) o, by have := h.size; simp; omega, by obtain ⟨z, hz⟩ := h.zero; exact ⟨z, (Below.heap_alloc _ _ _ (by have := h.size; omega)).trans hz⟩,
   (Below.heap_alloc _ _ _ (by have := h.size; omega)).trans h.row⟩
theorem JR.cell {w wr : World} {f : Nat → Int} (h : JR w f wr) {j : Nat} (hj : j < 8) : wr.cell? ⟨w.heap.size + 1, j, none⟩ = some (.int .u32 (f j)) := by
  rw [cell_of_row _ _ _ _ _ _ h.row]; exact cl_at f j hj
theorem JR.free {w wr : World} {f : Nat → Int} (h : JR w f wr) (j : Nat) : wr.frozen? ⟨w.heap.size + 1, j, none⟩ = false := frozen_of_row _ _ _ _ _ h.row
theorem cl_set (f : Nat → Int) (j : Nat) (hj : j < 8) (x : Int) : (cl f).setIfInBounds j (.int .u32 x) = cl (fun i => if i = j then x else f i) := by
  rcases (by omega : j = 0 ∨ j = 1 ∨ j = 2 ∨ j = 3 ∨ j = 4 ∨ j = 5 ∨ j = 6 ∨ j = 7) with rfl | rfl | rfl | rfl | rfl | rfl | rfl | rfl <;> rfl
theorem JR.store {w wr : World} {f : Nat → Int} (h : JR w f wr) {j : Nat} (hj : j < 8) (x : Int) : JR w (fun i => if i = j then x else f i) (wr.setCell ⟨w.heap.size + 1, j, none⟩ (.int .u32 x)) :=
  ⟨h.below.setCell (by simp) _, by have := h.size; simpa [World.setCell] using this, by obtain ⟨z, hz⟩ := h.zero; exact ⟨z, by rw [heap_setCell_other _ _ _ _ (by simp)]; exact hz⟩,
   by rw [heap_setCell_same _ _ _ _ _ _ h.row, cl_set f j hj]⟩
theorem JR.congr {w wr : World} {f g : Nat → Int} (h : JR w f wr) (e : ∀ j, j < 8 → f j = g j) : JR w g wr :=
  ⟨h.below, h.size, h.zero, by rw [← cl_congr e]; exact h.row⟩
theorem mix_succ (j : Nat) (f g : Nat → Int) : (fun i => if i = j then max (f j) (g j) else mix j f g i) = mix (j + 1) f g := by
  funext i
  unfold mix
  by_cases h : i = j
  · subst h; simp
  · by_cases h2 : i < j
    · simp [h, h2, show i < j + 1 by omega]
    · simp [h, h2, show ¬ i < j + 1 by omega]
theorem mix_at (j : Nat) (f g : Nat → Int) : mix j f g j = f j := by simp [mix]

set_option maxHeartbeats 400000 in
theorem join_any (b off : Nat) (n c : Nat) (hn : n ≤ 100) (C : Nat → Nat → Int) (w : World)
    (hb : b < w.heap.size) (hc : ∀ i j, i < n → j < 8 → w.cell? ⟨b, off + (8 * i + j), none⟩ = some (.int .u32 (C i j))) :
    Calls Try.prog 19 #[.slice (some ⟨b, off, none⟩) n c] w fun e w' => e = .returned (.agg (cl (joinTo C n))) ∧ Below w.heap.size w w' := by
  have HC := hc
  have H : Hid (∀ i j, i < n → j < 8 → w.cell? ⟨b, off + (8 * i + j), none⟩ = some (.int .u32 (C i j))) := hc
  clear hc HC
  go_enter Try.func19, Try.ntmps19
  go_wp2
  go_loopw [10] (fun i wr => ∃ k : Nat, k ≤ n ∧ i = .int .i64 k ∧ JR w (joinTo C k) wr) (fun i _ => n - (intOf i).toNat)
  case atStart => 
    refine ⟨0, Nat.zero_le _, rfl, ?_, ?_, ?_, ?_⟩
    · exact ((Below.refl _ _).alloc (Nat.le_refl _) _).alloc (by simp) _
    · simp
    · exact ⟨fun _ => 0, heap_alloc2_old _ _ _⟩
    · exact heap_alloc2_new _ _ _
  case round =>
    obtain ⟨k, hk, rfl, hrel⟩ := hrel
    by_cases hlt : k < n
    · have hB := hrel.1
      have e : ∀ j, j < 8 → wr.cell? ⟨b, off + k * 8 + j, none⟩ = some (.int .u32 (C k j)) := fun j hj => by
        rw [hB.cell (p := ⟨b, off + k * 8 + j, none⟩) hb, show off + k * 8 + j = off + (8 * k + j) by omega]; exact H.out k j hlt hj
      have e0 : wr.cell? ⟨b, off + k * 8, none⟩ = some (.int .u32 (C k 0)) := e 0 (by omega)
      have e1 := e 1 (by omega)
      have e2 := e 2 (by omega)
      have e3 := e 3 (by omega)
      have e4 := e 4 (by omega)
      have e5 := e 5 (by omega)
      have e6 := e 6 (by omega)
      have e7 := e 7 (by omega)
      clear e hB
      go_wp2
      have hr0 := hrel.alloc (Obj.cells #[Value.int IntKind.u32 (C k 0), Value.int IntKind.u32 (C k 1), Value.int IntKind.u32 (C k 2), Value.int IntKind.u32 (C k 3), Value.int IntKind.u32 (C k 4), Value.int IntKind.u32 (C k 5), Value.int IntKind.u32 (C k 6), Value.int IntKind.u32 (C k 7)] 27)
      clear e0 e1 e2 e3 e4 e5 e6 e7 hrel
      obtain ⟨wo, hwo⟩ : ∃ wo : World, wo = wr := ⟨_, rfl⟩
      go_loopw [15] (fun i W => ∃ j : Nat, j ≤ 8 ∧ i = .int .i64 j ∧ JR w (mix j (joinTo C k) (C k)) W) (fun i _ => 8 - (intOf i).toNat)
      case atStart => exact ⟨0, by omega, rfl, hr0⟩
      case round =>
        clear hr0
        obtain ⟨j, hj, rfl, hrel⟩ := hrel
        by_cases hlt2 : j < 8
        · have hi := fun W => idx_agg (C k) j hlt2 W
          simp only [cl] at hi
          have hcell := hrel.cell hlt2
          have hfree := hrel.free j
          go_wp2
          refine ⟨⟨j + 1, by omega, by go_num, ?_⟩, by simp [intOf]; omega⟩
          have hs := hrel.store hlt2 (max (joinTo C k j) (C k j))
          rw [mix_succ] at hs
          rw [mix_at, show (if joinTo C k j < C k j then C k j else joinTo C k j) = max (joinTo C k j) (C k j) by omega]
          exact hs
        · have hj8 : j = 8 := by omega
          go_wp2
          refine ⟨⟨k + 1, by omega, by go_num, ?_⟩, by simp [intOf]; omega⟩
          subst hj8
          exact hrel.congr fun i hi => by simp [mix, hi, joinTo]
    · have hkn : k = n := by omega
      obtain ⟨z, hz⟩ := hrel.zero
      have c0 := hrel.cell (j := 0) (by omega)
      have c1 := hrel.cell (j := 1) (by omega)
      have c2 := hrel.cell (j := 2) (by omega)
      have c3 := hrel.cell (j := 3) (by omega)
      have c4 := hrel.cell (j := 4) (by omega)
      have c5 := hrel.cell (j := 5) (by omega)
      have c6 := hrel.cell (j := 6) (by omega)
      have c7 := hrel.cell (j := 7) (by omega)
      have z0 := (cell_of_row _ _ 0 _ _ _ hz).trans (cl_at z 0 (by omega))
      have z1 := (cell_of_row _ _ 1 _ _ _ hz).trans (cl_at z 1 (by omega))
      have z2 := (cell_of_row _ _ 2 _ _ _ hz).trans (cl_at z 2 (by omega))
      have z3 := (cell_of_row _ _ 3 _ _ _ hz).trans (cl_at z 3 (by omega))
      have z4 := (cell_of_row _ _ 4 _ _ _ hz).trans (cl_at z 4 (by omega))
      have z5 := (cell_of_row _ _ 5 _ _ _ hz).trans (cl_at z 5 (by omega))
      have z6 := (cell_of_row _ _ 6 _ _ _ hz).trans (cl_at z 6 (by omega))
      have z7 := (cell_of_row _ _ 7 _ _ _ hz).trans (cl_at z 7 (by omega))
      have zf : ∀ i, wr.frozen? ⟨w.heap.size, i, none⟩ = false := fun i => frozen_of_row _ _ _ _ _ hz
      clear hz
      have HR : Hid (JR w (joinTo C k) wr) := hrel
      have HN : Hid (k = n) := hkn
      clear hrel hkn
      go_wp2
      refine bodyPost_ret (v := .agg (cl (joinTo C k))) (by simp [results, Try.results19, go_sem, z0, z1, z2, z3, z4, z5, z6, z7, cl]) rfl ⟨by rw [HN.out], ?_⟩
      have hb := HR.out.below
      exact (((((((hb.setCell (by simp) _).setCell (by simp) _).setCell (by simp) _).setCell (by simp) _).setCell (by simp) _).setCell (by simp) _).setCell (by simp) _).setCell (by simp) _
end Go.Proofs.Ytiionogafaegkaa
