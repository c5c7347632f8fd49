/-
  Bytes that a call appends one after another to a slice of its own. Plain lemmas, over any program.
-/
import Derived.Test.YtiionogafaegkaaBuf
import Derived.Laws.AppendOwn
namespace Go.Proofs.Ytiionogafaegkaa
open Go.RowKit
/-- The slice value v holds these bytes, in a row of the call's own. -/
def OwnB (w : World) (base : Nat) (e : TypeId) (v : Value) (l : List Int) : Prop := w.ownsRow base e 1 v l.length (l.map (Value.int .u8))
section
variable {w w' : World} {base : Nat} {e : TypeId} {v : Value} {l : List Int} {P : Program}
theorem OwnB.nil (w : World) (base : Nat) (e : TypeId) : OwnB w base e (.slice none 0 0) [] := World.ownsRow_nil w base e 1
theorem OwnB.alloc (h : OwnB w base e v l) (o : Obj) : OwnB (w.alloc o) base e v l := World.ownsRow.alloc h o
theorem OwnB.drewN (h : OwnB w base e v l) (n : Nat) : OwnB (w.drewN n) base e v l := h
theorem OwnB.drew (h : OwnB w base e v l) : OwnB w.drew base e v l := h
theorem OwnB.lo (h : OwnB w base e v l) : ∀ r, v.ownBlock = some r → base ≤ r := fun r hr => (World.ownsRow.lt h r hr).1
/-- what the law on append leaves, said of the bytes -/
theorem OwnB.more {n : Nat} {news : List Int} (hn : news.length = n) (h : w.ownsRow base e 1 v (l.length + n) (l.map (Value.int .u8) ++ news.map (Value.int .u8))) : OwnB w base e v (l ++ news) := by
  unfold OwnB
  rw [List.length_append, List.map_append, hn]
  exact h
/-- what the slice holds, made a string -/
theorem OwnB.conv (h : OwnB w base e v l) {src dst : TypeId} (hs : P.underlying src = some (.slice e)) (he : P.underlying e = some (.int .u8)) (hd : P.underlying dst = some .string) :
    (convert src dst v).run P w = .ok (.string (strOfNums l)) w := by
  rcases h.2 with ⟨rfl, hl⟩ | ⟨g, cap, cur, rfl, _⟩
  · have hl' : l = [] := List.eq_nil_of_length_eq_zero hl
    rw [run_convert_bytes_nil w src e hs he 0 0 dst hd, hl']
    rfl
  · refine run_convert_bytes_arg w src e hs he g 0 l.length cap l rfl (fun i hi => ?_) dst hd
    have := World.ownsRow.cells h (g := g) rfl i (.int .u8 (l.getD i 0)) (by simp [hi])
    have ha : (⟨g, 0, none⟩ : Addr).add i = ⟨g, 0 + i, none⟩ := by unfold Addr.add; split <;> simp_all
    rwa [ha] at this
/-- A row below what the call owns stays as it was when the slice grows. -/
theorem Row.grew {b : Nat} {t : TypeId} {k : IntKind} {o : List Int} (h : Row w b t k o) {row : Option Nat} (hg : w.grownBy w' row) (hr : ∀ r, row = some r → base ≤ r) (hb : b < base) : Row w' b t k o :=
  (hg.block b h.lt (fun e => by have := hr b e.symm; omega)).trans h
end
end Go.Proofs.Ytiionogafaegkaa
