/-
  An element of a row of integers behind a name that the walk does not open; the row's steps said with it. Plain lemmas, over any program.
-/
import Derived.Test.YtiionogafaegkaaArr
namespace Go.Proofs.Ytiionogafaegkaa
open Go.RowKit

/-- The element at a place. -/
def gi (l : List Int) (i : Nat) : Int := l.getD i 0
theorem gi_def (l : List Int) (i : Nat) : gi l i = l.getD i 0 := rfl
theorem gi_set_same (l : List Int) (i : Nat) (x : Int) (h : i < l.length) : gi (l.set i x) i = x := by simp [gi, h]
theorem gi_set_other (l : List Int) (i j : Nat) (x : Int) (h : i ≠ j) : gi (l.set i x) j = gi l j := by
  unfold gi
  simp only [List.getD_eq_getElem?_getD]
  rw [List.getElem?_set_ne h]
theorem gi_set (l : List Int) (i j : Nat) (x : Int) (h : i < l.length) : gi (l.set i x) j = if i = j then x else gi l j := by
  split
  · rename_i e; subst e; exact gi_set_same l i x h
  · rename_i e; exact gi_set_other l i j x e
theorem list_ext_gi {l m : List Int} (h : l.length = m.length) (e : ∀ i, i < l.length → gi l i = gi m i) : l = m := by
  apply List.ext_getElem h
  intro i h1 h2
  have := e i h1
  simpa [gi, h1, h2] using this

section
variable {w : World} {b : Nat} {t : TypeId} {k : IntKind} {l : List Int} {P : Program}
theorem Row.at_ (h : Row w b t k l) {i : Nat} (hi : i < l.length) : w.cell? ⟨b, i, none⟩ = some (.int k (gi l i)) := h.cell hi
theorem Row.over (w : World) (old : Array Value) (t : TypeId) (k : IntKind) (m : List Int) : Row ((w.alloc (.cells old t)).setRow w.heap.size (ints k m)) w.heap.size t k m := setRow_heap _ _ _ _ t _ (heap_alloc_new _ _)
/-- A store into the row, and a draw. -/
theorem Row.grown_set (w : World) (b i : Nat) (v : Value) : w.grownBy (w.setCell ⟨b, i, none⟩ v) (some b) :=
  ⟨rfl, rfl, rfl, by simp [World.setCell], fun q _ hq => Below.heap_setCell _ _ _ _ (fun e => hq (by rw [e]))⟩
theorem grown_drew {a w : World} {row : Option Nat} (h : a.grownBy w row) : a.grownBy w.drew row := ⟨h.os, h.tape, h.output, h.size, h.block⟩
theorem grown_comp {a b c : World} {row : Option Nat} (h : a.grownBy b row) (k : b.grownBy c row) : a.grownBy c row :=
  ⟨k.os.trans h.os, k.tape.trans h.tape, k.output.trans h.output, Nat.le_trans h.size k.size, fun i hi hne => (k.block i (Nat.lt_of_lt_of_le hi h.size) hne).trans (h.block i hi hne)⟩
theorem Row.away {w' : World} {g : Nat} (h : Row w b t k l) (hg : w.grownBy w' (some g)) (hne : b ≠ g) : Row w' b t k l := (hg.block b h.lt (fun e => hne (by injection e))).trans h
/-- What turned one row of the call's own only turned nothing below. -/
theorem below_of_grown {B g : Nat} {a w w' : World} (h : Below B a w) (hg : w.grownBy w' (some g)) (hB : B ≤ w.heap.size) (hb : B ≤ g) : Below B a w' :=
  h.grown hg hB (fun k hk => by injection hk with hk; omega)
theorem grown_of_below {a w : World} (h : Below a.heap.size a w) (row : Option Nat) : a.grownBy w row := ⟨h.os, h.tape, h.output, h.size, fun i hi _ => h.block i hi⟩

theorem index_gi (w : World) (t e : TypeId) (n : Nat) (k kk kj : IntKind) (info : TypeInfo) (l : List Int) (i : Nat) (ht : P.underlying t = some (.array n e)) (he : P.underlying e = some (.int kk))
    (hs : P.info? e = some info) (h1 : info.size = 1) (hn : l.length = n) (hi : i < n) :
    (Instr.index t (.agg (ints k l)) (.int kj (i : Int))).run P w = .ok (.int k (gi l i)) w := run_index_ints w t e n k kk kj info l i ht he hs h1 hn hi
end
end Go.Proofs.Ytiionogafaegkaa
