/-
  Slices that come in: their blocks, only read. Over any program.
-/
import Derived.Test.YtjfhdckcjkgjnaaDoorXz
import Derived.Test.YtjfhdckcjkgjnaaDoorXl
import Derived.SliceStrings
import Derived.ChangeSlices
import Derived.Deep.Slices
namespace Go.Proofs.YtjfhdckcjkgjnaaDoor
open Go Go.RowKit Go.ChangeShapes Go.WideShapes Go.ChangeAt
set_option linter.unusedVariables false

/-- A slice value that shows these cells, wherever they lie. -/
def SlV (H : AH) (v : Value) (cells : List Value) : Prop :=
  (∃ a, v = .slice a 0 0 ∧ cells = []) ∨ ∃ j off k, v = .slice (some ⟨j, off, none⟩) cells.length cells.length ∧ hget H j = some k ∧ ∀ i x, cells[i]? = some x → k.cells[off + i]? = some x
theorem SlV.app {H : AH} {v : Value} {ps : List Value} (h : SlV H v ps) (L : AH) : SlV (H ++ L) v ps := by
  rcases h with h | ⟨j, off, k, h1, h2, h3⟩
  · exact .inl h
  · exact .inr ⟨j, off, k, h1, hget_left' h2, h3⟩
theorem SlV.len {P : Program} {H : AH} {v : Value} {ps : List Value} {t e : TypeId} (h : SlV H v ps) (ht : und P t = .slice e) : xlen P t v = some (.int .i64 ps.length) := by
  rcases h with ⟨a, rfl, rfl⟩ | ⟨j, off, k, rfl, _⟩
  · simp [xlen, ht]
  · simp [xlen, ht]
section
variable {P : Program} {W : World} {H : Type} {enc : TypeId × Value → H}
/-- A block that is only read, of plain cells. -/
def RoOk (W : World) (x : Ent × Blk) : Prop :=
  x.1.b < W.heap.size ∧ x.1.es = x.2.es ∧ ∃ cs fr, W.heap[x.1.b]? = some (.cells cs x.2.ty fr) ∧ ∀ (j : Nat) (v : Value), x.2.cells[j]? = some v → cs[x.1.o + j]? = some v ∧ plain1 v = true
theorem RoOk.ro {x : Ent × Blk} (h : RoOk W x) (m : List Ent) : x.1.b < W.heap.size ∧ x.1.es = x.2.es ∧ ∃ cs fr, W.heap[x.1.b]? = some (.cells cs x.2.ty fr) ∧ ∀ (j : Nat) (v : Value), x.2.cells[j]? = some v → ∃ y, cs[x.1.o + j]? = some y ∧ V1 m v y :=
  let ⟨h1, h2, cs, fr, h3, h4⟩ := h
  ⟨h1, h2, cs, fr, h3, fun j v hv => ⟨v, (h4 j v hv).1, .plain (h4 j v hv).2⟩⟩
/-- What is told of a slice that came in. -/
structure Told (W : World) (v : Value) (E : List (Ent × Blk)) (vt : Nat → Value) (cells : List Value) : Prop where
  ro : ∀ x ∈ E, RoOk W x
  le : E.length ≤ 1
  rel : ∀ (A B : List (Ent × Blk)), V ((A ++ (E ++ B)).map (·.1)) (vt A.length) v
  sl : ∀ (A B : List (Ent × Blk)), SlV ((A ++ (E ++ B)).map fun x => some x.2) (vt A.length) cells
theorem told_nil : Told W (.slice none 0 0) [] (fun _ => .slice none 0 0) [] :=
  ⟨fun x h => (by cases h), (by simp), fun A B => .one (.plain rfl), fun A B => .inl ⟨none, rfl, rfl⟩⟩
theorem told_cells {b off len cap : Nat} {cs : Array Value} {ty : TypeId} {fr : Nat × Nat} {xs : List Value} (hh : W.heap[b]? = some (.cells cs ty fr)) (hl : len ≤ cap) (hx : xs.length = len)
    (hc : ∀ i x, xs[i]? = some x → W.cell? ⟨b, off + i, none⟩ = some x) (hp : ∀ x ∈ xs, plain1 x = true) :
    Told W (.slice (some ⟨b, off, none⟩) len cap) [(⟨b, off, 0, none⟩, ⟨xs, ty, none⟩)] (fun n => .slice (some ⟨n, 0, none⟩) len len) xs := by
  refine ⟨fun x hxm => ?_, by simp, fun A B => ?_, fun A B => .inr ⟨A.length, 0, ⟨xs, ty, none⟩, by simp [hx], ?_, fun i x hi => by rw [Nat.zero_add]; exact hi⟩⟩
  · rw [List.mem_singleton] at hxm
    subst hxm
    refine ⟨(Array.getElem?_eq_some_iff.1 hh).1, rfl, cs, fr, hh, fun j v hv => ⟨?_, hp v (List.mem_of_getElem? hv)⟩⟩
    have := hc j v hv
    simp only [World.cell?, hh] at this
    simpa using this
  · have := V1.sl (m := (A ++ ([((⟨b, off, 0, none⟩ : Ent), (⟨xs, ty, none⟩ : Blk))] ++ B)).map (·.1)) (i := A.length) (off := 0) (len := len) (c := cap) (e := ⟨b, off, 0, none⟩) (by simp) hl (fun _ s hs => by cases hs)
    exact .one this
  · unfold hget; simp
theorem slice_at {r : Reach} {b0 : Nat} {t e : TypeId} {a : Addr} {len cap : Nat} (ht : P.underlying t = some (.slice e)) (hv : Value.okWide P W r b0 t (.slice (some a) len cap)) :
    a.spot = none ∧ ∃ cs ty fr, W.heap[a.block]? = some (.cells cs ty fr) := by
  unfold Value.okWide at hv
  rw [ht] at hv
  simp only [Cell.okWide, ht, Cell.ok] at hv
  obtain ⟨_, hsp, row, cells, hsh, _⟩ := hv.2.2
  refine ⟨hsp, ?_⟩
  unfold World.shape? at hsh
  split at hsh
  · rename_i c el fr hh; exact ⟨_, _, _, hh⟩
  · cases hsh
theorem add_none' (b off i : Nat) : (⟨b, off, none⟩ : Addr).add i = ⟨b, off + i, none⟩ := by
  unfold Addr.add
  split
  · rename_i h; subst h; rfl
  · rfl
theorem open_islice {r : Reach} {b0 base : Nat} {sp : Nat → Bool} {hd : Bool} {t e : TypeId} {k : IntKind} {v : Value} {d : DataW H} {p : List MemPlace} (ht : P.underlying t = some (.slice e)) (he : P.underlying e = some (.int k)) (hc : P.cellsOf e = 1)
    (hv : Value.okWide P W r b0 t v) (h : DataW.Trod enc P W base sp hd t v d p) : ∃ (E : List (Ent × Blk)) (vt : Nat → Value) (zs : List Int), Told W v E vt (iv k zs) ∧ (∀ n ∈ zs, (Lit.int k n).wf = true) ∧ zs.length ≤ maxLen := by
  obtain ⟨a0, l0, c0, rfl⟩ := okWide_slice ht hv
  obtain ⟨fuel, hf⟩ := h
  rcases open_ints ht he hc hf with ⟨h0, _⟩ | ⟨a, len, cap, zs, h0, _, hl, hm, hz, _, hcell, hwf⟩
  · have h1 : Value.slice a0 l0 c0 = Value.slice none 0 0 := by simpa [Value.cells] using h0
    rw [h1]
    exact ⟨[], _, [], told_nil, fun n hn => (by cases hn), Nat.zero_le _⟩
  · have h1 : Value.slice a0 l0 c0 = Value.slice (some a) len cap := by simpa [Value.cells] using h0
    rw [h1] at hv ⊢
    obtain ⟨hsp, cs, ty, fr, hh⟩ := slice_at ht hv
    obtain ⟨b, off, spot⟩ := a
    simp only at hsp hh
    subst hsp
    have hlen : len ≤ zs.length := by rw [hz]; split <;> omega
    refine ⟨_, _, zs.take len, told_cells hh hl (by simp; omega) (fun i x hi => ?_) (fun x hx => ?_), fun n hn => hwf n (List.mem_of_mem_take hn), by rw [List.length_take]; omega⟩
    · have hi' : i < len := by
        rcases Nat.lt_or_ge i len with h | h
        · exact h
        · rw [List.getElem?_eq_none (by simp; omega)] at hi; cases hi
      have hci := hcell i (by omega)
      rw [add_none'] at hci
      rw [hci, ← hi, iv_getN k _ i (by rw [List.length_take]; omega)]
      congr 2
      rw [List.getD_eq_getElem?_getD, List.getD_eq_getElem?_getD, List.getElem?_take_of_lt hi']
    · unfold iv at hx
      obtain ⟨z, _, rfl⟩ := List.mem_map.1 hx
      rfl
theorem open_sslice {r : Reach} {b0 base : Nat} {sp : Nat → Bool} {hd : Bool} {t e : TypeId} {v : Value} {d : DataW H} {p : List MemPlace} (ht : P.underlying t = some (.slice e)) (he : P.underlying e = some .string) (hc : P.cellsOf e = 1)
    (hv : Value.okWide P W r b0 t v) (h : DataW.Trod enc P W base sp hd t v d p) : ∃ (E : List (Ent × Blk)) (vt : Nat → Value) (ss : List ByteArray), Told W v E vt (ss.map .string) ∧ (∀ s ∈ ss, s.size ≤ maxLen) ∧ ss.length ≤ maxLen := by
  obtain ⟨a0, l0, c0, rfl⟩ := okWide_slice ht hv
  obtain ⟨fuel, hf⟩ := h
  rcases open_strings ht he hc hf with ⟨h0, _⟩ | ⟨a, len, cap, zs, h0, _, hl, hm, hz, _, hcell, hwf⟩
  · have h1 : Value.slice a0 l0 c0 = Value.slice none 0 0 := by simpa [Value.cells] using h0
    rw [h1]
    exact ⟨[], _, [], told_nil, fun n hn => (by cases hn), Nat.zero_le _⟩
  · have h1 : Value.slice a0 l0 c0 = Value.slice (some a) len cap := by simpa [Value.cells] using h0
    rw [h1] at hv ⊢
    obtain ⟨hsp, cs, ty, fr, hh⟩ := slice_at ht hv
    obtain ⟨b, off, spot⟩ := a
    simp only at hsp hh
    subst hsp
    have hlen : len ≤ zs.length := by rw [hz]; split <;> omega
    refine ⟨_, _, zs.take len, told_cells hh hl (by simp; omega) (fun i x hi => ?_) (fun x hx => ?_), fun n hn => hwf n (List.mem_of_mem_take hn), by rw [List.length_take]; omega⟩
    · have hi' : i < len := by
        rcases Nat.lt_or_ge i len with h | h
        · exact h
        · rw [List.getElem?_eq_none (by simp; omega)] at hi; cases hi
      have hci := hcell i (by omega)
      rw [add_none'] at hci
      rw [hci, ← hi, List.getElem?_map, List.getElem?_take_of_lt hi', List.getD_eq_getElem?_getD, List.getElem?_eq_getElem (by omega)]
      rfl
    · obtain ⟨z, _, rfl⟩ := List.mem_map.1 hx
      rfl
end
end Go.Proofs.YtjfhdckcjkgjnaaDoor
