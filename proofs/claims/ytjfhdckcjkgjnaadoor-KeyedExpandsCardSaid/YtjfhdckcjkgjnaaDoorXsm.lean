/-
  Memory of which all that was there stays. Over any program.
-/
import Derived.Test.YtjfhdckcjkgjnaaDoorXfp
import Derived.Test.YtjfhdckcjkgjnaaDoorXz
namespace Go.Proofs.YtjfhdckcjkgjnaaDoor
open Go Go.RowKit
set_option linter.unusedVariables false
set_option linter.unusedSimpArgs false
def Same0 (H H' : AH) : Prop := H.length ≤ H'.length ∧ ∀ j, j < H.length → hget H' j = hget H j
theorem Same0.refl (H : AH) : Same0 H H := ⟨Nat.le_refl _, fun _ _ => rfl⟩
theorem Same0.trans {H G K : AH} (h : Same0 H G) (k : Same0 G K) : Same0 H K := ⟨Nat.le_trans h.1 k.1, fun j hj => (k.2 j (Nat.lt_of_lt_of_le hj h.1)).trans (h.2 j hj)⟩
theorem Same0.app (H L : AH) : Same0 H (H ++ L) := ⟨by simp, fun j hj => hget_left hj⟩
theorem Same0.set {H G : AH} (h : Same0 H G) {p : Nat} (hp : H.length ≤ p) (x : Option Blk) : Same0 H (G.set p x) := ⟨by simpa using h.1, fun j hj => (hget_set_ne (by omega)).trans (h.2 j hj)⟩
theorem Same0.fr {H G K : AH} {F F' : List Nat} (h : Same0 H G) (hf : Fr G K F F') (hF : ∀ j ∈ F, H.length ≤ j) : Same0 H K :=
  ⟨Nat.le_trans h.1 hf.len, fun j hj => (hf.out j (Nat.lt_of_lt_of_le hj h.1) (fun hm => by have := hF j hm; omega)).trans (h.2 j hj)⟩
theorem fr1 {H : AH} {p : Nat} {x : Option Blk} : Fr H (H.set p x) [p] [p] := Fr.mk (by simp) (fun j hj hn => hget_set_ne (by simp at hn; omega)) (fun j hj => .inl hj)
/-- A row that is filled by one value of its whole size. -/
theorem fill_agg {f : Nat → Option (Nat × Nat)} {cells us : List Value} {n : Nat} (hf : f 0 = some (0, n)) (hc : cells.length = n) (hu : us.length = n) : xfill f cells [(0, .agg us.toArray)] = some us := by
  have h1 : (Value.agg us.toArray).cells.size = n := by simpa [Value.cells] using hu
  unfold xfill
  simp only [hf]
  rw [if_pos ⟨h1, by rw [h1]; omega⟩]
  unfold xfill
  rw [setR_all _ _ (by simp [Value.cells, hu, hc])]
  rfl
end Go.Proofs.YtjfhdckcjkgjnaaDoor
