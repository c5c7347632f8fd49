/-
  Package variables, and arguments behind pointers and slices, as blocks that are only read; a function of them that answers a plain value. Over any program.
  Tests that hold by arithmetic, as conditional equations: the walk's simp shows their conditions by omega. And the blocks' equations, conditional likewise.
  Slices that come in: their blocks, only read. Over any program.
  A slice of arrays of integers that comes in: its block, only read. Over any program.
  Frames of blocks; rows that lie one behind the other; bytes of texts, cut and joined. Over any program.
  Own slices with their blocks as a footprint.
  A slice's cell, by its address. Over any program.
  A region whose order is drawn, with calls that turn memory: the calls stand in one row, whatever else there is only looks at temporaries and at blocks that stay. Over any program.
  A slice of structs of numbers, texts, bools and slices of numbers that comes in: its blocks, only read. Over any program.
-/
import Derived.Test.YtpdijcaikjobiaaLibB
import Derived.Lib.LaidTab
import Derived.SliceStrings
import Derived.ChangeSlices
import Derived.Deep.Slices
import Derived.Test.YtpdijcaikjobiaaTabm
namespace Go.Proofs.Ytpdijcaikjobiaa
section
open Go Go.RowKit
set_option linter.unusedVariables false
set_option linter.unusedSimpArgs false

/-- The package variables that are known, by their numbers: the blocks 0, 1, .. . -/
def gam (gs : List Nat) : Nat → Option Nat := fun g => gs.findIdx? (· == g)
theorem eval_func (γ : Nat → Option Nat) (α : Fm) (f : FuncId) : Fm.eval γ α (.func f) = .func (.func f) #[] #[] := rfl
theorem eval_global (γ : Nat → Option Nat) (α : Fm) (g : Nat) : Fm.eval γ α (.global g) = match γ g with | some i => .pointer (some ⟨i, 0, none⟩) | none => undef := rfl

section
variable {P : Program} {nro n base : Nat} {γ : Nat → Option Nat} {m : List Ent} {H : AH} {α : Fm} {a : Act} {w : World} {Q : Value → AH → Prop}

/-- A function that answers a plain value and turns nothing that was there, whatever of it is own: called among others. -/
theorem ac_of_rc {f : FuncId} {args : Array Value} {v : Value} (h : AC P H.length γ f args H (fun v' _ => v' = v)) (hv : plainV v = true) (hq : Q v H) : AC P nro γ f args H Q := by
  intro m base w args' hR hsz hva
  refine (h m w.heap.size w args' hR.freeze hsz hva).mono ?_
  rintro e w' ⟨m', v1, v', H', rfl, _, hv', _, hb, rfl⟩
  exact ⟨m, v1, v1, H, by rw [hv'.eq hv], List.prefix_rfl, plainV_mk hv, hR.below hb, hb.mono hR.base_le, hq⟩
end

section
variable {P : Program} {W : World}
/-- Blocks that were there, and are only read. -/
theorem rel_ro (L : List (Ent × Blk)) (γ : Nat → Option Nat)
    (h : ∀ x ∈ L, x.1.b < W.heap.size ∧ x.1.es = x.2.es ∧ ∃ cs fr, W.heap[x.1.b]? = some (.cells cs x.2.ty fr) ∧ ∀ (j : Nat) (v : Value), x.2.cells[j]? = some v → ∃ y, cs[x.1.o + j]? = some y ∧ V1 (L.map (·.1)) v y)
    (hg : ∀ (g i : Nat), γ g = some i → ∃ e : Ent, (L.map (·.1))[i]? = some e ∧ e.b = g ∧ e.o = 0) :
    Rel L.length W.heap.size γ (L.map (·.1)) (L.map fun x => some x.2) W := by
  have get : ∀ (i : Nat) (e : Ent), (L.map (·.1))[i]? = some e → ∃ x, L[i]? = some x ∧ x ∈ L ∧ e = x.1 := by
    intro i e he
    rw [List.getElem?_map] at he
    cases hx : L[i]? with
    | none => rw [hx] at he; cases he
    | some x => rw [hx] at he; cases he; exact ⟨x, rfl, List.mem_of_getElem? hx, rfl⟩
  refine ⟨by simp, by simp, Nat.le_refl _, fun i e he => ?_, fun i e _ he => ?_, fun i e hi he => ?_, fun i k e hk he => ?_, fun i j ki kj ei ej hi hj _ hki => ?_, hg⟩
  · obtain ⟨x, _, hx, rfl⟩ := get i e he; exact (h x hx).1
  · obtain ⟨x, _, hx, rfl⟩ := get i e he; exact (h x hx).1
  · obtain ⟨x, hx, _, _⟩ := get i e he
    have := (List.getElem?_eq_some_iff.1 hx).1
    omega
  · obtain ⟨x, hx, hm, rfl⟩ := get i e he
    rw [List.getElem?_map, hx] at hk
    cases hk
    obtain ⟨_, h2, cs, fr, h3, h4⟩ := h x hm
    have hi := (List.getElem?_eq_some_iff.1 hx).1
    exact ⟨cs, fr, h3, fun hn => by omega, h2, fun hn => by omega, h4⟩
  · have := (List.getElem?_eq_some_iff.1 hki).1
    simp at this
    omega
/-- A table of integers, as its block. -/
theorem tab_block {name : String} {k : IntKind} {zs : List Int} {g : Nat} (h : Lib.TabIs P W name k zs) (hg : P.globalNamed name = some g) : ∃ t fr, W.heap[g]? = some (.cells (iv k zs).toArray t fr) := by
  unfold Lib.TabIs World.var? at h
  rw [hg] at h
  simp only [Option.bind_some] at h
  split at h
  · rename_i cs t fr hb
    cases h
    exact ⟨t, fr, hb⟩
  · cases h
theorem iv_v1 {m : List Ent} {k : IntKind} {zs : List Int} (j : Nat) (v : Value) (h : (iv k zs)[j]? = some v) : ∃ y, ((iv k zs).toArray)[0 + j]? = some y ∧ V1 m v y := by
  refine ⟨v, by simpa using h, ?_⟩
  unfold iv at h
  rw [List.getElem?_map] at h
  cases hz : zs[j]? with
  | none => rw [hz] at h; cases h
  | some z => rw [hz] at h; cases h; exact .plain rfl
/-- A law's walk, at the world at hand. -/
theorem calls_of_ac {f : FuncId} {args args' : Array Value} {v : Value} {m : List Ent} {H : AH} {γ : Nat → Option Nat} (hR : Rel H.length W.heap.size γ m H W) (hv : plainV v = true) (hs : args'.size = args.size)
    (ha : ∀ (i : Nat) (x : Value), args[i]? = some x → ∃ y, args'[i]? = some y ∧ V m x y) (h : AC P H.length γ f args H (fun v' _ => v' = v)) (hbd : bodied P f = true := by kernel_rfl) (hcl : callable P f = true := by kernel_rfl) : Calls P f args' W fun e W' => e = .returned v ∧ Below W.heap.size W W' := by
  rcases h m W.heap.size W args' hR hs ha with ⟨_, h'⟩ | ⟨v0, hrun, _⟩
  case inr =>
    rw [callable_run hcl hbd] at hrun
    cases hrun
  refine h'.mono ?_
  rintro e w' ⟨m', v1, v', H', rfl, _, hv', _, hb, rfl⟩
  exact ⟨by rw [hv'.eq hv], hb⟩
end
end

section
open Go Go.RowKit

theorem ltT {a b : Int} (h : a < b) : (a < b) = True := eq_true h
theorem ltF {a b : Int} (h : b ≤ a) : (a < b) = False := eq_false (by omega)
theorem leT {a b : Int} (h : a ≤ b) : (a ≤ b) = True := eq_true h
theorem leF {a b : Int} (h : b < a) : (a ≤ b) = False := eq_false (by omega)
theorem eqT {a b : Int} (h : a = b) : (a = b) = True := eq_true h
theorem eqF {a b : Int} (h : a ≠ b) : (a = b) = False := eq_false h
theorem ltTn {a b : Nat} (h : a < b) : (a < b) = True := eq_true h
theorem ltFn {a b : Nat} (h : b ≤ a) : (a < b) = False := eq_false (by omega)
theorem leTn {a b : Nat} (h : a ≤ b) : (a ≤ b) = True := eq_true h
theorem leFn {a b : Nat} (h : b < a) : (a ≤ b) = False := eq_false (by omega)
theorem eqTn {a b : Nat} (h : a = b) : (a = b) = True := eq_true h
theorem eqFn {a b : Nat} (h : a ≠ b) : (a = b) = False := eq_false h
theorem beqT {a b : Int} (h : a = b) : (a == b) = true := by simpa using h
theorem beqF {a b : Int} (h : a ≠ b) : (a == b) = false := by simpa using h
theorem bneT {a b : Int} (h : a ≠ b) : (a != b) = true := by simpa using h
theorem bneF {a b : Int} (h : a = b) : (a != b) = false := by simpa using h
theorem wi64 {x : Int} (h : -9223372036854775808 ≤ x ∧ x ≤ 9223372036854775807) : IntKind.i64.wrap x = x := wrap64_in h
theorem wu64 {x : Int} (h : 0 ≤ x ∧ x ≤ 18446744073709551615) : IntKind.u64.wrap x = x := by simp only [IntKind.wrap, IntKind.bits, IntKind.signed]; simp; omega
theorem wu32 {x : Int} (h : 0 ≤ x ∧ x ≤ 4294967295) : IntKind.u32.wrap x = x := by simp only [IntKind.wrap, IntKind.bits, IntKind.signed]; simp; omega
theorem wu16 {x : Int} (h : 0 ≤ x ∧ x ≤ 65535) : IntKind.u16.wrap x = x := by simp only [IntKind.wrap, IntKind.bits, IntKind.signed]; simp; omega
theorem wu8 {x : Int} (h : 0 ≤ x ∧ x ≤ 255) : IntKind.u8.wrap x = x := by simp only [IntKind.wrap, IntKind.bits, IntKind.signed]; simp; omega
theorem tmodP {a b : Int} (h : 0 ≤ a) : a.tmod b = a % b := Int.tmod_eq_emod_of_nonneg h
theorem tdivP {a b : Int} (h : 0 ≤ a) : a.tdiv b = a / b := Int.tdiv_eq_ediv_of_nonneg h
theorem fdivP {a b : Int} (h : 0 ≤ b) : a.fdiv b = a / b := Int.fdiv_eq_ediv_of_nonneg a h
theorem hgetL {H L : AH} {i : Nat} (h : i < H.length) : hget (H ++ L) i = hget H i := hget_left h
theorem hgetNe {H : AH} {i j : Nat} {x : Option Blk} (h : i ≠ j) : hget (H.set i x) j = hget H j := hget_set_ne h
theorem hgetEq {H : AH} {i : Nat} {x : Option Blk} (h : i < H.length) : hget (H.set i x) i = x := hget_set_eq h
theorem setL {H L : AH} {i : Nat} {x : Option Blk} (h : i < H.length) : (H ++ L).set i x = H.set i x ++ L := List.set_append_left _ _ h
theorem hset_self {H : AH} {b : Nat} {k : Blk} (h : hget H b = some k) : H.set b (some k) = H := by
  have h2 := hget_some h
  apply List.ext_getElem?
  intro i
  rw [List.getElem?_set]
  split
  · rename_i e; subst e
    split
    · exact h2.symm
    · rename_i hlt; rw [List.getElem?_eq_none (by omega)] at h2; cases h2
  · rfl
theorem iv_getN (k : IntKind) (l : List Int) (i : Nat) (h : i < l.length) : (iv k l)[i]? = some (.int k (l.getD i 0)) := iv_get k l i h
theorem nums_def (s : ByteArray) : (s.data.toList.map fun b => (b.toNat : Int)) = nums s := rfl
theorem nums_len (s : ByteArray) : (nums s).length = s.size := by unfold nums; simp
theorem nums_bd (s : ByteArray) : ∀ x ∈ nums s, 0 ≤ x ∧ x ≤ 255 := by
  intro x hx
  unfold nums at hx
  obtain ⟨b, _, rfl⟩ := List.mem_map.1 hx
  have := b.toNat_lt
  omega
theorem agB : isAggD .bool = false := rfl
theorem agI (k : IntKind) : isAggD (.int k) = false := rfl
theorem agS : isAggD .string = false := rfl
theorem agP (t : TypeId) : isAggD (.pointer t) = false := rfl
theorem agL (t : TypeId) : isAggD (.slice t) = false := rfl
theorem agA (n : Nat) (t : TypeId) : isAggD (.array n t) = true := rfl
theorem okB : okD .bool = true := rfl
theorem okI (k : IntKind) : okD (.int k) = true := rfl
theorem okS : okD .string = true := rfl
theorem okP (t : TypeId) : okD (.pointer t) = true := rfl
theorem okSl (t : TypeId) : okD (.slice t) = true := rfl
theorem okA (n : Nat) (t : TypeId) : okD (.array n t) = true := rfl
/-- Bytes. -/
def By (l : List Int) : Prop := ∀ x ∈ l, 0 ≤ x ∧ x ≤ 255
theorem nums_of (l : List Int) (h : By l) : nums (strOfNums l) = l := by
  unfold nums
  rw [strOfNums_data, List.map_map]
  refine (List.map_congr_left fun x hx => ?_).trans (List.map_id' l)
  have := h x hx
  simp only [Function.comp_apply]
  rw [UInt8.toNat_ofNat']
  omega
theorem of_nums' (s : ByteArray) : strOfNums (nums s) = s := by
  unfold nums strOfNums
  rw [List.map_map]
  have : (fun n : Int => UInt8.ofNat n.toNat) ∘ (fun b : UInt8 => (b.toNat : Int)) = id := by
    funext b
    simp
  rw [this, List.map_id]
theorem by_u8 (x : Int) : 0 ≤ IntKind.u8.wrap x ∧ IntKind.u8.wrap x ≤ 255 := by simp only [IntKind.wrap, IntKind.bits, IntKind.signed]; simp; omega
theorem By.app {l r : List Int} (h : By l) (k : By r) : By (l ++ r) := fun x hx => by
  rcases List.mem_append.1 hx with g | g
  · exact h x g
  · exact k x g
theorem By.cons {x : Int} {l : List Int} (h : 0 ≤ x ∧ x ≤ 255) (k : By l) : By (x :: l) := fun y hy => by
  rcases List.mem_cons.1 hy with rfl | g
  · exact h
  · exact k y g
theorem By.nil : By [] := fun x hx => by cases hx
theorem By.get {l : List Int} (h : By l) (p : Nat) : 0 ≤ l.getD p 0 ∧ l.getD p 0 ≤ 255 := by
  rw [List.getD_eq_getElem?_getD]
  cases hq : l[p]? with
  | none => simp
  | some x => simpa using h x (List.mem_of_getElem? hq)
end

section
open Go Go.RowKit Go.ChangeShapes Go.WideShapes Go.ChangeAt
set_option linter.unusedVariables false

/-- A slice value that shows these cells, wherever they lie. -/
def SlV (H : AH) (v : Value) (cells : List Value) : Prop :=
  (∃ a, v = .slice a 0 0 ∧ cells = []) ∨ ∃ j off k, v = .slice (some ⟨j, off, none⟩) cells.length cells.length ∧ hget H j = some k ∧ ∀ i x, cells[i]? = some x → k.cells[off + i]? = some x
theorem SlV.app {H : AH} {v : Value} {ps : List Value} (h : SlV H v ps) (L : AH) : SlV (H ++ L) v ps := by
  rcases h with h | ⟨j, off, k, h1, h2, h3⟩
  · exact .inl h
  · exact .inr ⟨j, off, k, h1, hget_left' h2, h3⟩
theorem SlV.len {P : Program} {H : AH} {v : Value} {ps : List Value} {t e : TypeId} (h : SlV H v ps) (ht : und P t = .slice e) : xlen P t v = some (.int .i64 ps.length) := by
  rcases h with ⟨a, rfl, rfl⟩ | ⟨j, off, k, rfl, _⟩
  · simp [xlen, ht]
  · simp [xlen, ht]
section
variable {P : Program} {W : World} {H : Type} {enc : TypeId × Value → H}
/-- A block that is only read, of plain cells. -/
def RoOk (W : World) (x : Ent × Blk) : Prop :=
  x.1.b < W.heap.size ∧ x.1.es = x.2.es ∧ ∃ cs fr, W.heap[x.1.b]? = some (.cells cs x.2.ty fr) ∧ ∀ (j : Nat) (v : Value), x.2.cells[j]? = some v → cs[x.1.o + j]? = some v ∧ plain1 v = true
theorem RoOk.ro {x : Ent × Blk} (h : RoOk W x) (m : List Ent) : x.1.b < W.heap.size ∧ x.1.es = x.2.es ∧ ∃ cs fr, W.heap[x.1.b]? = some (.cells cs x.2.ty fr) ∧ ∀ (j : Nat) (v : Value), x.2.cells[j]? = some v → ∃ y, cs[x.1.o + j]? = some y ∧ V1 m v y :=
  let ⟨h1, h2, cs, fr, h3, h4⟩ := h
  ⟨h1, h2, cs, fr, h3, fun j v hv => ⟨v, (h4 j v hv).1, .plain (h4 j v hv).2⟩⟩
/-- What is told of a slice that came in. -/
structure Told (W : World) (v : Value) (E : List (Ent × Blk)) (vt : Nat → Value) (cells : List Value) : Prop where
  ro : ∀ x ∈ E, RoOk W x
  le : E.length ≤ 1
  rel : ∀ (A B : List (Ent × Blk)), V ((A ++ (E ++ B)).map (·.1)) (vt A.length) v
  sl : ∀ (A B : List (Ent × Blk)), SlV ((A ++ (E ++ B)).map fun x => some x.2) (vt A.length) cells
theorem told_nil : Told W (.slice none 0 0) [] (fun _ => .slice none 0 0) [] :=
  ⟨fun x h => (by cases h), (by simp), fun A B => .one (.plain rfl), fun A B => .inl ⟨none, rfl, rfl⟩⟩
theorem told_cells {b off len cap : Nat} {cs : Array Value} {ty : TypeId} {fr : Nat × Nat} {xs : List Value} (hh : W.heap[b]? = some (.cells cs ty fr)) (hl : len ≤ cap) (hx : xs.length = len)
    (hc : ∀ i x, xs[i]? = some x → W.cell? ⟨b, off + i, none⟩ = some x) (hp : ∀ x ∈ xs, plain1 x = true) :
    Told W (.slice (some ⟨b, off, none⟩) len cap) [(⟨b, off, 0, none⟩, ⟨xs, ty, none⟩)] (fun n => .slice (some ⟨n, 0, none⟩) len len) xs := by
  refine ⟨fun x hxm => ?_, by simp, fun A B => ?_, fun A B => .inr ⟨A.length, 0, ⟨xs, ty, none⟩, by simp [hx], ?_, fun i x hi => by rw [Nat.zero_add]; exact hi⟩⟩
  · rw [List.mem_singleton] at hxm
    subst hxm
    refine ⟨(Array.getElem?_eq_some_iff.1 hh).1, rfl, cs, fr, hh, fun j v hv => ⟨?_, hp v (List.mem_of_getElem? hv)⟩⟩
    have := hc j v hv
    simp only [World.cell?, hh] at this
    simpa using this
  · have := V1.sl (m := (A ++ ([((⟨b, off, 0, none⟩ : Ent), (⟨xs, ty, none⟩ : Blk))] ++ B)).map (·.1)) (i := A.length) (off := 0) (len := len) (c := cap) (e := ⟨b, off, 0, none⟩) (by simp) hl (fun _ s hs => by cases hs)
    exact .one this
  · unfold hget; simp
theorem slice_at {r : Reach} {b0 : Nat} {t e : TypeId} {a : Addr} {len cap : Nat} (ht : P.underlying t = some (.slice e)) (hv : Value.okWide P W r b0 t (.slice (some a) len cap)) :
    a.spot = none ∧ ∃ cs ty fr, W.heap[a.block]? = some (.cells cs ty fr) := by
  unfold Value.okWide at hv
  rw [ht] at hv
  simp only [Cell.okWide, ht, Cell.ok] at hv
  obtain ⟨_, hsp, row, cells, hsh, _⟩ := hv.2.2
  refine ⟨hsp, ?_⟩
  unfold World.shape? at hsh
  split at hsh
  · rename_i c el fr hh; exact ⟨_, _, _, hh⟩
  · cases hsh
theorem add_none' (b off i : Nat) : (⟨b, off, none⟩ : Addr).add i = ⟨b, off + i, none⟩ := by
  unfold Addr.add
  split
  · rename_i h; subst h; rfl
  · rfl
theorem open_islice {r : Reach} {b0 base : Nat} {sp : Nat → Bool} {hd : Bool} {t e : TypeId} {k : IntKind} {v : Value} {d : DataW H} {p : List MemPlace} (ht : P.underlying t = some (.slice e)) (he : P.underlying e = some (.int k)) (hc : P.cellsOf e = 1)
    (hv : Value.okWide P W r b0 t v) (h : DataW.Trod enc P W base sp hd t v d p) : ∃ (E : List (Ent × Blk)) (vt : Nat → Value) (zs : List Int), Told W v E vt (iv k zs) ∧ (∀ n ∈ zs, (Lit.int k n).wf = true) ∧ zs.length ≤ maxLen := by
  obtain ⟨a0, l0, c0, rfl⟩ := okWide_slice ht hv
  obtain ⟨fuel, hf⟩ := h
  rcases open_ints ht he hc hf with ⟨h0, _⟩ | ⟨a, len, cap, zs, h0, _, hl, hm, hz, _, hcell, hwf⟩
  · have h1 : Value.slice a0 l0 c0 = Value.slice none 0 0 := by simpa [Value.cells] using h0
    rw [h1]
    exact ⟨[], _, [], told_nil, fun n hn => (by cases hn), Nat.zero_le _⟩
  · have h1 : Value.slice a0 l0 c0 = Value.slice (some a) len cap := by simpa [Value.cells] using h0
    rw [h1] at hv ⊢
    obtain ⟨hsp, cs, ty, fr, hh⟩ := slice_at ht hv
    obtain ⟨b, off, spot⟩ := a
    simp only at hsp hh
    subst hsp
    have hlen : len ≤ zs.length := by rw [hz]; split <;> omega
    refine ⟨_, _, zs.take len, told_cells hh hl (by simp; omega) (fun i x hi => ?_) (fun x hx => ?_), fun n hn => hwf n (List.mem_of_mem_take hn), by rw [List.length_take]; omega⟩
    · have hi' : i < len := by
        rcases Nat.lt_or_ge i len with h | h
        · exact h
        · rw [List.getElem?_eq_none (by simp; omega)] at hi; cases hi
      have hci := hcell i (by omega)
      rw [add_none'] at hci
      rw [hci, ← hi, iv_getN k _ i (by rw [List.length_take]; omega)]
      congr 2
      rw [List.getD_eq_getElem?_getD, List.getD_eq_getElem?_getD, List.getElem?_take_of_lt hi']
    · unfold iv at hx
      obtain ⟨z, _, rfl⟩ := List.mem_map.1 hx
      rfl
theorem open_sslice {r : Reach} {b0 base : Nat} {sp : Nat → Bool} {hd : Bool} {t e : TypeId} {v : Value} {d : DataW H} {p : List MemPlace} (ht : P.underlying t = some (.slice e)) (he : P.underlying e = some .string) (hc : P.cellsOf e = 1)
    (hv : Value.okWide P W r b0 t v) (h : DataW.Trod enc P W base sp hd t v d p) : ∃ (E : List (Ent × Blk)) (vt : Nat → Value) (ss : List ByteArray), Told W v E vt (ss.map .string) ∧ (∀ s ∈ ss, s.size ≤ maxLen) ∧ ss.length ≤ maxLen := by
  obtain ⟨a0, l0, c0, rfl⟩ := okWide_slice ht hv
  obtain ⟨fuel, hf⟩ := h
  rcases open_strings ht he hc hf with ⟨h0, _⟩ | ⟨a, len, cap, zs, h0, _, hl, hm, hz, _, hcell, hwf⟩
  · have h1 : Value.slice a0 l0 c0 = Value.slice none 0 0 := by simpa [Value.cells] using h0
    rw [h1]
    exact ⟨[], _, [], told_nil, fun n hn => (by cases hn), Nat.zero_le _⟩
  · have h1 : Value.slice a0 l0 c0 = Value.slice (some a) len cap := by simpa [Value.cells] using h0
    rw [h1] at hv ⊢
    obtain ⟨hsp, cs, ty, fr, hh⟩ := slice_at ht hv
    obtain ⟨b, off, spot⟩ := a
    simp only at hsp hh
    subst hsp
    have hlen : len ≤ zs.length := by rw [hz]; split <;> omega
    refine ⟨_, _, zs.take len, told_cells hh hl (by simp; omega) (fun i x hi => ?_) (fun x hx => ?_), fun n hn => hwf n (List.mem_of_mem_take hn), by rw [List.length_take]; omega⟩
    · have hi' : i < len := by
        rcases Nat.lt_or_ge i len with h | h
        · exact h
        · rw [List.getElem?_eq_none (by simp; omega)] at hi; cases hi
      have hci := hcell i (by omega)
      rw [add_none'] at hci
      rw [hci, ← hi, List.getElem?_map, List.getElem?_take_of_lt hi', List.getD_eq_getElem?_getD, List.getElem?_eq_getElem (by omega)]
      rfl
    · obtain ⟨z, _, rfl⟩ := List.mem_map.1 hx
      rfl
end
end

section
open Go Go.RowKit Go.ChangeShapes Go.WideShapes Go.ChangeAt
set_option linter.unusedVariables false

/-- A slice value that shows these rows, each of sz integers. -/
def SlK (sz : Nat) (kd : IntKind) (H : AH) (v : Value) (ks : List (List Int)) : Prop :=
  (∃ a, v = .slice a 0 0 ∧ ks = []) ∨ ∃ j k, v = .slice (some ⟨j, 0, none⟩) ks.length ks.length ∧ hget H j = some k ∧ ks.length * sz ≤ k.cells.length ∧ ∀ i key, ks[i]? = some key → (k.cells.drop (i * sz)).take sz = iv kd key
theorem SlK.low {sz : Nat} {kd : IntKind} {H H' : AH} {v : Value} {ks : List (List Int)} (h : SlK sz kd H v ks) (hl : ∀ j, j < H.length → hget H' j = hget H j) : SlK sz kd H' v ks := by
  rcases h with h | ⟨j, k, h1, h2, h3⟩
  · exact .inl h
  · exact .inr ⟨j, k, h1, by rw [hl j (hget_lt h2)]; exact h2, h3⟩
theorem SlK.len {P : Program} {sz : Nat} {kd : IntKind} {H : AH} {v : Value} {ks : List (List Int)} {t e : TypeId} (h : SlK sz kd H v ks) (ht : und P t = .slice e) : xlen P t v = some (.int .i64 ks.length) := by
  rcases h with ⟨a, rfl, rfl⟩ | ⟨j, k, rfl, _⟩
  · simp [xlen, ht]
  · simp [xlen, ht]
theorem SlK.at {P : Program} {sz : Nat} {kd : IntKind} {H : AH} {v : Value} {ks : List (List Int)} {t e : TypeId} (h : SlK sz kd H v ks) (ht : und P t = .slice e) (hs : szt P e = sz) (h0 : 0 < sz) (hd : isAggD (und P e) = true) {i : Nat} {key : List Int} (hi : ks[i]? = some key) :
    ∃ p, xindexAddr P t v (.int .i64 (i : Nat)) = some p ∧ ∀ H' : AH, (∀ j, j < H.length → hget H' j = hget H j) → xload P e p H' = some (.agg (iv kd key).toArray) := by
  have hil : i < ks.length := (List.getElem?_eq_some_iff.1 hi).1
  rcases h with ⟨a, rfl, rfl⟩ | ⟨j, b, rfl, hb, hc, hk⟩
  · simp at hi
  · refine ⟨.pointer (some ⟨j, i * sz, none⟩), ?_, fun H' hl => ?_⟩
    · unfold xindexAddr
      simp only [ht, hs]
      rw [if_pos ⟨by omega, by omega, h0⟩]
      simp
    · unfold xload
      have h2 : i * sz + sz ≤ b.cells.length := by
        have : (i + 1) * sz ≤ ks.length * sz := Nat.mul_le_mul_right _ hil
        rw [Nat.add_mul] at this
        omega
      simp only [hl j (hget_lt hb), hb, hd, hs, if_true]
      rw [if_pos ⟨h0, h2⟩, hk i key hi]
/-- What is told of such a slice. -/
structure ToldK (sz : Nat) (kd : IntKind) (W : World) (v : Value) (E : List (Ent × Blk)) (vt : Nat → Value) (ks : List (List Int)) : Prop where
  ro : ∀ x ∈ E, RoOk W x
  le : E.length ≤ 1
  rel : ∀ (A B : List (Ent × Blk)), V ((A ++ (E ++ B)).map (·.1)) (vt A.length) v
  sl : ∀ (A B : List (Ent × Blk)), SlK sz kd ((A ++ (E ++ B)).map fun x => some x.2) (vt A.length) ks
section
variable {P : Program} {W : World} {H : Type} {enc : TypeId × Value → H}
theorem open_kslice {r : Reach} {b0 base : Nat} {sp : Nat → Bool} {hd : Bool} {t e e0 : TypeId} {m : Nat} {kd : IntKind} {v : Value} {d : DataW H} {p : List MemPlace} (ht : P.underlying t = some (.slice e)) (he : P.underlying e = some (.array m e0)) (he0 : P.underlying e0 = some (.int kd)) (hc0 : P.cellsOf e0 = 1) (hc : P.cellsOf e = m) (hm : 0 < m)
    (hv : Value.okWide P W r b0 t v) (h : DataW.Trod enc P W base sp hd t v d p) : ∃ (E : List (Ent × Blk)) (vt : Nat → Value) (ks : List (List Int)), ToldK m kd W v E vt ks ∧ (∀ key ∈ ks, key.length = m ∧ ∀ x ∈ key, (Lit.int kd x).wf = true) ∧ ks.length ≤ maxLen := by
  obtain ⟨a0, l0, c0, rfl⟩ := okWide_slice ht hv
  obtain ⟨fuel, hf⟩ := h
  rcases DataW.trod_slice ht hf with ⟨h0, _⟩ | ⟨a, len, cap, elems, rest, n, _, h0, _, hb, hl, hmx, hlen, hel, _, _⟩
  · have h1 : Value.slice a0 l0 c0 = Value.slice none 0 0 := by simpa [Value.cells] using h0
    rw [h1]
    exact ⟨[], fun _ => .slice none 0 0, [], ⟨fun x h => (by cases h), by simp, fun A B => .one (.plain rfl), fun A B => .inl ⟨none, rfl, rfl⟩⟩, fun n hn => (by cases hn), Nat.zero_le _⟩
  · have h1 : Value.slice a0 l0 c0 = Value.slice (some a) len cap := by simpa [Value.cells] using h0
    rw [h1] at hv ⊢
    obtain ⟨hsp, cs, ty, fr, hh⟩ := slice_at ht hv
    obtain ⟨b, off, spot⟩ := a
    simp only at hsp hh
    subst hsp
    have each : ∀ i, i < len → ∃ key : List Int, key.length = m ∧ (∀ x ∈ key, (Lit.int kd x).wf = true) ∧ ∀ j, j < m → W.cell? ⟨b, off + (i * m + j), none⟩ = some (.int kd (key.getD j 0)) := by
      intro i hi
      have h2 := hel i hi
      rw [hc, List.getElem?_eq_getElem (show i < elems.length by omega), Option.bind_eq_some_iff] at h2
      obtain ⟨cs', hcs, hy⟩ := h2
      obtain ⟨xs, q, rfl, _, hl2, hn2, hel2⟩ := DataW.trod_array he hy
      rw [hc] at hl2
      have hall : ∀ j, j < m → ∃ x, cs'[j]? = some (.int kd x) ∧ (Lit.int kd x).wf = true := by
        intro j hj
        have h3 := hel2 j hj
        rw [hc0, List.getElem?_eq_getElem (show j < xs.length by omega)] at h3
        obtain ⟨x, hx1, _, hw⟩ := DataW.trod_int he0 h3
        refine ⟨x, ?_, hw⟩
        have h4 := congrArg (fun l : List Value => l[0]?) hx1
        simpa [List.getElem?_take, List.getElem?_drop] using h4
      have hcell := (World.cells?_some hcs).2.2
      refine ⟨cs'.map num, by simpa using hl2, fun x hx => ?_, fun j hj => ?_⟩
      · obtain ⟨y, hy2, rfl⟩ := List.mem_map.1 hx
        obtain ⟨j, hj, rfl⟩ := List.mem_iff_getElem.1 hy2
        obtain ⟨x, hx1, hw⟩ := hall j (by omega)
        rw [List.getElem?_eq_getElem hj] at hx1
        rw [Option.some.inj hx1]
        exact hw
      · obtain ⟨x, hx1, _⟩ := hall j hj
        have h5 := hcell j hj
        rw [add_none', add_none'] at h5
        rw [show off + (i * m + j) = off + i * m + j by omega, h5, hx1]
        simp [hx1, num]
    let f : Nat → List Int := fun i => if h : i < len then (each i h).choose else []
    have hf1 : ∀ i, i < len → (f i).length = m ∧ (∀ x ∈ f i, (Lit.int kd x).wf = true) ∧ ∀ j, j < m → W.cell? ⟨b, off + (i * m + j), none⟩ = some (.int kd ((f i).getD j 0)) := by
      intro i hi
      have := (each i hi).choose_spec
      simp only [f, hi, dif_pos]
      exact this
    let xs : List Value := (List.range (len * m)).map fun i => .int kd ((f (i / m)).getD (i % m) 0)
    have hxl : xs.length = len * m := by simp [xs]
    have hxs : ∀ i x, xs[i]? = some x → W.cell? ⟨b, off + i, none⟩ = some x ∧ plain1 x = true := by
      intro i x hx
      have hi : i < len * m := by rw [← hxl]; exact (List.getElem?_eq_some_iff.1 hx).1
      have hq : i / m < len := Nat.div_lt_of_lt_mul (by rw [Nat.mul_comm]; exact hi)
      have hr : i % m < m := Nat.mod_lt _ hm
      have h6 := (hf1 (i / m) hq).2.2 (i % m) hr
      have e1 : i / m * m + i % m = i := by rw [Nat.mul_comm]; exact Nat.div_add_mod i m
      rw [e1] at h6
      simp only [xs, List.getElem?_map, List.getElem?_range hi, Option.map_some, Option.some.injEq] at hx
      rw [← hx]
      exact ⟨h6, rfl⟩
    refine ⟨[(⟨b, off, 0, none⟩, ⟨xs, ty, none⟩)], fun n => .slice (some ⟨n, 0, none⟩) len len, (List.range len).map f, ⟨fun x hxm => ?_, by simp, fun A B => ?_, fun A B => .inr ⟨A.length, ⟨xs, ty, none⟩, by simp, ?_, by simp [hxl], fun i key hk => ?_⟩⟩, fun key hk => ?_, by simp; omega⟩
    · rw [List.mem_singleton] at hxm
      subst hxm
      refine ⟨(Array.getElem?_eq_some_iff.1 hh).1, rfl, cs, fr, hh, fun j v hv => ?_⟩
      have := hxs j v hv
      simp only [World.cell?, hh] at this
      simpa using this
    · have := V1.sl (m := (A ++ ([((⟨b, off, 0, none⟩ : Ent), (⟨xs, ty, none⟩ : Blk))] ++ B)).map (·.1)) (i := A.length) (off := 0) (len := len) (c := cap) (e := ⟨b, off, 0, none⟩) (by simp) hl (fun _ s hs => by cases hs)
      exact .one this
    · unfold hget; simp
    · rw [List.getElem?_map] at hk
      have hi : i < len := by
        rcases Nat.lt_or_ge i len with h | h
        · exact h
        · rw [List.getElem?_eq_none (by simpa using h)] at hk; cases hk
      rw [List.getElem?_range hi] at hk
      simp only [Option.map_some, Option.some.injEq] at hk
      subst hk
      have h7 : (i + 1) * m ≤ len * m := Nat.mul_le_mul_right _ hi
      rw [Nat.add_mul] at h7
      apply List.ext_getElem?
      intro j
      rcases Nat.lt_or_ge j m with hj | hj
      · have e1 : (i * m + j) / m = i := by rw [Nat.mul_comm, Nat.mul_add_div hm, Nat.div_eq_of_lt hj, Nat.add_zero]
        have e2 : (i * m + j) % m = j := by rw [Nat.mul_comm, Nat.mul_add_mod, Nat.mod_eq_of_lt hj]
        rw [List.getElem?_take_of_lt hj, List.getElem?_drop, iv_getN kd _ j (by rw [(hf1 i hi).1]; exact hj)]
        show ((List.range (len * m)).map _)[i * m + j]? = _
        rw [List.getElem?_map, List.getElem?_range (by omega)]
        simp only [Option.map_some, e1, e2]
      · rw [List.getElem?_eq_none (by simp; omega), List.getElem?_eq_none (by rw [iv_length, (hf1 i hi).1]; exact hj)]
    · obtain ⟨i, hi, rfl⟩ := List.mem_map.1 hk
      have hi : i < len := by simpa using hi
      exact ⟨(hf1 i hi).1, (hf1 i hi).2.1⟩
end
end

section
open Go Go.RowKit
set_option linter.unusedVariables false
set_option linter.unusedSimpArgs false

/-- Blocks outside of F are as they were; those of F' were in F or are new. -/
structure Fr (H H' : AH) (F F' : List Nat) : Prop where
  len : H.length ≤ H'.length
  out : ∀ j, j < H.length → j ∉ F → hget H' j = hget H j
  new : ∀ j ∈ F', j ∈ F ∨ H.length ≤ j
theorem Fr.refl (H : AH) (F : List Nat) : Fr H H F F := ⟨Nat.le_refl _, fun _ _ _ => rfl, fun _ h => .inl h⟩
theorem Fr.trans {H H' H'' : AH} {F F' F'' : List Nat} (h : Fr H H' F F') (k : Fr H' H'' F' F'') : Fr H H'' F F'' := by
  refine ⟨Nat.le_trans h.len k.len, fun j hj hn => ?_, fun j hj => ?_⟩
  · rw [k.out j (Nat.lt_of_lt_of_le hj h.len) (fun hm => ?_), h.out j hj hn]
    rcases h.new j hm with h1 | h1
    · exact hn h1
    · omega
  · rcases k.new j hj with h1 | h1
    · exact h.new j h1
    · exact .inr (Nat.le_trans h.len h1)

section
variable {β : Type}
theorem setR_left (a b r : List Value) (off : Nat) (h : off + r.length ≤ a.length) : setR (a ++ b) off r = setR a off r ++ b := by
  apply List.ext_getElem?
  intro j
  rw [setR_get _ _ _ _ (by simp; omega)]
  rcases Nat.lt_or_ge j a.length with hj | hj
  · rw [List.getElem?_append_left (l₁ := setR a off r) (by simpa using hj), setR_get _ _ _ _ h, List.getElem?_append_left hj]
  · rw [if_neg (by omega), List.getElem?_append_right (l₁ := setR a off r) (by simpa using hj), List.getElem?_append_right hj, setR_length]
theorem setR_right (a b r : List Value) (off : Nat) (h : off + r.length ≤ b.length) : setR (a ++ b) (a.length + off) r = a ++ setR b off r := by
  apply List.ext_getElem?
  intro j
  rw [setR_get _ _ _ _ (by simp; omega)]
  rcases Nat.lt_or_ge j a.length with hj | hj
  · rw [if_neg (by omega), List.getElem?_append_left hj, List.getElem?_append_left hj]
  · rw [List.getElem?_append_right hj, List.getElem?_append_right hj, setR_get _ _ _ _ h]
    by_cases hc : off ≤ j - a.length ∧ j - a.length < off + r.length
    · rw [if_pos hc, if_pos (by omega), show j - (a.length + off) = j - a.length - off by omega]
    · rw [if_neg hc, if_neg (by omega)]
theorem setR_front (q r : List Value) (h : r.length ≤ q.length) : setR q 0 r = r ++ q.drop r.length := by
  apply List.ext_getElem?
  intro j
  rw [setR_get _ _ _ _ (by omega)]
  rcases Nat.lt_or_ge j r.length with hj | hj
  · rw [if_pos (by omega), List.getElem?_append_left hj, Nat.sub_zero]
  · rw [if_neg (by omega), List.getElem?_append_right hj, List.getElem?_drop, show r.length + (j - r.length) = j by omega]
/-- New blocks behind a heap of which one was set. -/
theorem hga {G L : AH} {i k : Nat} {v : Option Blk} : hget (G.set i v ++ L) (G.length + k) = hget L k := by
  have := hget_app (G.set i v) L k
  rwa [List.length_set] at this
theorem hga0 {G L : AH} {i : Nat} {v : Option Blk} : hget (G.set i v ++ L) G.length = hget L 0 := hga (k := 0)
theorem sga {G L : AH} {i k : Nat} {v x : Option Blk} : (G.set i v ++ L).set (G.length + k) x = G.set i v ++ L.set k x := by
  have := set_app (G.set i v) L k x
  rwa [List.length_set] at this
theorem sga0 {G L : AH} {i : Nat} {v x : Option Blk} : (G.set i v ++ L).set G.length x = G.set i v ++ L.set 0 x := sga (k := 0)
/-- Rows of one length. -/
theorem fl_len {L : List (List β)} {n : Nat} (h : ∀ r ∈ L, r.length = n) : L.flatten.length = L.length * n := by
  induction L with
  | nil => simp
  | cons x L ih =>
    rw [List.flatten_cons, List.length_append, ih (fun r hr => h r (List.mem_cons_of_mem _ hr)), h x List.mem_cons_self, List.length_cons, Nat.add_mul]
    omega
theorem fl_drop {L : List (List β)} {n : Nat} (h : ∀ r ∈ L, r.length = n) : ∀ k, k ≤ L.length → L.flatten.drop (k * n) = (L.drop k).flatten := by
  induction L with
  | nil => intro k hk; simp
  | cons x L ih =>
    intro k hk
    cases k with
    | zero => simp
    | succ k =>
      have hx := h x List.mem_cons_self
      rw [List.flatten_cons, List.drop_succ_cons, ← ih (fun r hr => h r (List.mem_cons_of_mem _ hr)) k (by simpa using hk), Nat.add_mul, Nat.one_mul]
      rw [show k * n + n = x.length + k * n by omega, List.drop_append, List.drop_of_length_le (by omega), List.nil_append, show x.length + k * n - x.length = k * n by omega]
theorem fl_get {L : List (List β)} {n k : Nat} {r : List β} (h : ∀ r ∈ L, r.length = n) (hk : L[k]? = some r) : (L.flatten.drop (k * n)).take n = r := by
  obtain ⟨hl, he⟩ := List.getElem?_eq_some_iff.1 hk
  rw [fl_drop h k (by omega), List.drop_eq_getElem_cons hl, List.flatten_cons, he]
  have := h r (List.mem_of_getElem? hk)
  rw [List.take_append_of_le_length (by omega), List.take_of_length_le (by omega)]
theorem fl_setR {L : List (List Value)} {n k : Nat} {r q : List Value} (h : ∀ r ∈ L, r.length = n) (hk : L[k]? = some q) (hr : r.length ≤ n) : setR L.flatten (k * n) r = (L.set k (r ++ q.drop r.length)).flatten := by
  induction L generalizing k with
  | nil => simp at hk
  | cons x L ih =>
    have hx := h x List.mem_cons_self
    cases k with
    | zero =>
      simp at hk
      subst hk
      rw [List.set_cons_zero, List.flatten_cons, List.flatten_cons, Nat.zero_mul, setR_left _ _ _ _ (by omega), setR_front _ _ (by omega)]
    | succ k =>
      rw [List.set_cons_succ, List.flatten_cons, List.flatten_cons, ← ih (fun r hr => h r (List.mem_cons_of_mem _ hr)) (by simpa using hk), show (k + 1) * n = x.length + k * n by rw [hx, Nat.add_mul]; omega]
      refine setR_right _ _ _ _ ?_
      rw [fl_len (fun r hr => h r (List.mem_cons_of_mem _ hr))]
      have hkl : k < L.length := by
        have := (List.getElem?_eq_some_iff.1 hk).1
        simpa using this
      have : (k + 1) * n ≤ L.length * n := Nat.mul_le_mul_right _ hkl
      rw [Nat.add_mul] at this
      omega
theorem fl_app (L : List (List β)) (r : List β) : L.flatten ++ r = (L ++ [r]).flatten := by simp
theorem set_map {α β : Type} (f : α → β) (l : List α) (k : Nat) (x : α) : (l.map f).set k (f x) = (l.set k x).map f := by simp [List.map_set]
end

theorem nums_app (a b : ByteArray) : nums (a ++ b) = nums a ++ nums b := by simp [nums]
theorem nums_extract (s : ByteArray) (a b : Nat) : nums (s.extract a b) = ((nums s).drop a).take (b - a) := by
  unfold nums
  rw [ByteArray.data_extract, Array.toList_extract, List.extract_eq_take_drop, List.map_take, List.map_drop]
theorem nums_inj {a b : ByteArray} (h : nums a = nums b) : a = b := by rw [← of_nums' a, ← of_nums' b, h]
/-- A text's cells. -/
def sv (s : ByteArray) : List Value := iv .u8 (nums s)
@[simp] theorem sv_length (s : ByteArray) : (sv s).length = s.size := by simp [sv, nums_len]
theorem sv_take (s : ByteArray) (k : Nat) : (sv s).take k = sv (s.extract 0 k) := by rw [sv, sv, iv_take, nums_extract]; simp
theorem sv_drop (s : ByteArray) (k : Nat) : (sv s).drop k = sv (s.extract k s.size) := by
  rw [sv, sv, iv_drop, nums_extract, List.take_of_length_le (by simp [nums_len])]
theorem sv_app (a b : ByteArray) : sv a ++ sv b = sv (a ++ b) := by rw [sv, sv, sv, nums_app, iv_append]
theorem sv_bytes (s : ByteArray) : byteList (sv s) = some (nums s) := byteList_iv _
theorem sv_plain (s : ByteArray) : (sv s).all plain1 = true := by simp [sv, iv, plain1]
theorem sv_inj {a b : ByteArray} (h : sv a = sv b) : a = b := by
  refine nums_inj ?_
  have := congrArg (List.map num) h
  rwa [sv, sv, num_iv, num_iv] at this
/-- Noughts. -/
def zs (n : Nat) : ByteArray := ⟨(List.replicate n (0 : UInt8)).toArray⟩
@[simp] theorem zs_size (n : Nat) : (zs n).size = n := by simp [zs, ByteArray.size]
theorem nums_zs (n : Nat) : nums (zs n) = zl n := by simp [nums, zs, zl]
theorem sv_zs (n : Nat) : sv (zs n) = iv .u8 (zl n) := by rw [sv, nums_zs]
/-- New rows of noughts. -/
theorem zero_rows (n c : Nat) (z : Value) (l : List Value) (hl : l.length = n) : ((List.range (c * n)).map fun j => l.getD (j % n) undef) = (List.replicate c l).flatten := by
  induction c with
  | zero => simp
  | succ c ih =>
    rw [List.replicate_succ', List.flatten_append, ← ih, Nat.add_mul, Nat.one_mul, List.range_add, List.map_append]
    congr 1
    rw [List.map_map]
    simp only [List.flatten_cons, List.flatten_nil, List.append_nil]
    apply List.ext_getElem?
    intro j
    rcases Nat.lt_or_ge j n with hj | hj
    · rw [List.getElem?_map, List.getElem?_range hj]
      simp only [Option.map_some, Function.comp]
      rw [Nat.mul_comm, Nat.mul_add_mod, Nat.mod_eq_of_lt hj, List.getD_eq_getElem?_getD, List.getElem?_eq_getElem (by omega)]
      rfl
    · rw [List.getElem?_eq_none (by simp; omega), List.getElem?_eq_none (by omega)]
end

section
open Go Go.RowKit
set_option linter.unusedVariables false
set_option linter.unusedSimpArgs false

/-- An own slice: nil, or the whole of a block, its only footprint. -/
def OwnF (H : AH) (v : Value) (e : TypeId) (sz : Nat) (cells : List Value) (F : List Nat) : Prop :=
  (v = .slice none 0 0 ∧ cells = [] ∧ F = []) ∨ ∃ j len, v = .slice (some ⟨j, 0, none⟩) len len ∧ hget H j = some ⟨cells, e, some sz⟩ ∧ cells.length = len * sz ∧ F = [j]
theorem OwnF.low {H H' : AH} {v : Value} {e : TypeId} {sz : Nat} {cells : List Value} {F : List Nat} (h : OwnF H v e sz cells F) (hl : ∀ j ∈ F, hget H' j = hget H j) : OwnF H' v e sz cells F := by
  rcases h with h | ⟨j, len, h1, h2, h3, rfl⟩
  · exact .inl h
  · exact .inr ⟨j, len, h1, by rw [hl j (by simp)]; exact h2, h3, rfl⟩
theorem OwnF.len {P : Program} {H : AH} {v : Value} {e t : TypeId} {sz : Nat} {cells : List Value} {F : List Nat} (h : OwnF H v e sz cells F) (ht : und P t = .slice e) {n : Nat} (hn : cells.length = n * sz) (h0 : 0 < sz) : xlen P t v = some (.int .i64 n) := by
  rcases h with ⟨rfl, rfl, rfl⟩ | ⟨j, len, rfl, h2, h3, rfl⟩
  · have : n = 0 := by
      have : n * sz = 0 := hn.symm
      rcases Nat.mul_eq_zero.1 this with h | h <;> omega
    subst this
    simp [xlen, ht]
  · have : len = n := Nat.eq_of_mul_eq_mul_right h0 (h3.symm.trans hn)
    subst this
    simp [xlen, ht]
theorem ownF_append {P : Program} {nro : Nat} {t e : TypeId} {H : AH} {v x : Value} {sz : Nat} {cells news : List Value} {F : List Nat} (hu : und P t = .slice e) (hs : szt P e = sz) (h0 : 0 < sz) (hz : (zer P e).map (·.cells.size) = some sz)
    (hv : OwnF H v e sz cells F) (hnro : ∀ j ∈ F, nro ≤ j) (hstr : ∀ s, x ≠ .string s) (hx : xcells sz x H = some news) (hn : news ≠ []) (hd : news.length % sz = 0) (hb : (cells.length + news.length) * byt P e ≤ 140737488355328) (hm : cells.length + news.length ≤ maxLen) :
    ∃ v' H', xappend P nro t v x H = some (v', H') ∧ OwnF H' v' e sz (cells ++ news) [H.length] ∧ H'.length = H.length + 1 ∧ ∀ j, j < H.length → j ∉ F → hget H' j = hget H j := by
  subst hs
  have hdm : news.length / szt P e * szt P e = news.length := Nat.div_mul_cancel (Nat.dvd_of_mod_eq_zero hd)
  rcases hv with ⟨rfl, rfl, rfl⟩ | ⟨j, len, rfl, h3, h4, rfl⟩
  · refine ⟨.slice (some ⟨H.length, 0, none⟩) (news.length / szt P e) (news.length / szt P e), H ++ [some ⟨news, e, some (szt P e)⟩], ?_, .inr ⟨H.length, news.length / szt P e, rfl, ?_, ?_, rfl⟩, by simp, fun i hi _ => hget_left hi⟩
    · simp only [List.length_nil, Nat.zero_add] at hb hm
      unfold xappend
      cases x <;> first | (exact absurd rfl (hstr _)) | (simp only [hu, hx]; rw [if_pos ⟨h0, hz, hb, hm⟩, if_neg hn])
    · rw [hget_app0, hget_cons0]; rfl
    · rw [hdm]; rfl
  · have hj := hget_lt h3
    refine ⟨.slice (some ⟨H.length, 0, none⟩) (len + news.length / szt P e) (len + news.length / szt P e), H.set j none ++ [some ⟨cells ++ news, e, some (szt P e)⟩], ?_, .inr ⟨H.length, len + news.length / szt P e, rfl, ?_, ?_, rfl⟩, by simp, fun i hi hni => ?_⟩
    · have hc : True ∧ 0 < szt P e ∧ (zer P e).map (·.cells.size) = some (szt P e) ∧ nro ≤ j ∧ True ∧ True ∧ len * szt P e ≤ cells.length ∧ (len * szt P e + news.length) * byt P e ≤ 140737488355328 ∧ len * szt P e + news.length ≤ maxLen :=
        ⟨trivial, h0, hz, hnro j (by simp), trivial, trivial, by omega, by rw [← h4]; exact hb, by rw [← h4]; exact hm⟩
      unfold xappend
      cases x <;> first | (exact absurd rfl (hstr _)) | (simp only [hu, hx, h3]; rw [if_pos hc, ← h4, List.take_length])
    · have : (H.set j none).length = H.length := by simp
      rw [← this, hget_app0, hget_cons0]
    · rw [List.length_append, Nat.add_mul, ← h4, hdm]
    · rw [hget_left (by simp; omega), hget_set_ne (fun e => hni (by simp [e]))]

theorem OwnF.new {H : AH} {v : Value} {e : TypeId} {sz j : Nat} {cells : List Value} (h : OwnF H v e sz cells [j]) : ∃ len, v = .slice (some ⟨j, 0, none⟩) len len := by
  rcases h with ⟨_, _, h⟩ | ⟨i, len, rfl, _, _, h⟩
  · cases h
  · cases h; exact ⟨len, rfl⟩
theorem OwnF.lt {H : AH} {v : Value} {e : TypeId} {sz : Nat} {cells : List Value} {F : List Nat} (h : OwnF H v e sz cells F) : ∀ j ∈ F, j < H.length := by
  rcases h with ⟨_, _, rfl⟩ | ⟨i, len, _, h2, _, rfl⟩
  · intro j hj; cases hj
  · intro j hj; rw [List.mem_singleton] at hj; subst hj; exact hget_lt h2
end

section
open Go Go.RowKit
set_option linter.unusedVariables false

theorem SlV.cell {P : Program} {H : AH} {v : Value} {cells : List Value} {t e : TypeId} (h : SlV H v cells) (ht : und P t = .slice e) (hs : szt P e = 1) (hd : isAggD (und P e) = false) (ho : okD (und P e) = true) {i : Nat} {x : Value} (hi : cells[i]? = some x) :
    ∃ p, xindexAddr P t v (.int .i64 (i : Nat)) = some p ∧ xload P e p H = some x := by
  rcases h with ⟨a, rfl, rfl⟩ | ⟨j, off, b, rfl, hb, hc⟩
  · simp at hi
  · have hl := (List.getElem?_eq_some_iff.1 hi).1
    refine ⟨.pointer (some ⟨j, off + i, none⟩), ?_, ?_⟩
    · unfold xindexAddr
      simp only [ht, hs]
      rw [if_pos ⟨by omega, by omega, by omega⟩]
      simp
    · unfold xload
      simp only [hb, hd, ho]
      simpa using hc i _ hi
/-- A slice that shows these cells as long as nothing but F is turned. -/
def SlS (H : AH) (F : List Nat) (v : Value) (cells : List Value) : Prop := ∀ G : AH, (∀ j, j < H.length → j ∉ F → hget G j = hget H j) → SlV G v cells
theorem SlS.now {H : AH} {F : List Nat} {v : Value} {cells : List Value} (h : SlS H F v cells) : SlV H v cells := h H (fun _ _ _ => rfl)
theorem SlS.fr {H H' : AH} {F F' : List Nat} {v : Value} {cells : List Value} (h : SlS H F v cells) (hf : Fr H H' F F') : SlS H' F' v cells := fun G hg => h G (fun j hj hn => by
  rw [hg j (Nat.lt_of_lt_of_le hj hf.len) (fun hm => ?_), hf.out j hj hn]
  rcases hf.new j hm with h1 | h1
  · exact hn h1
  · omega)
/-- One that lies among blocks below lo. -/
theorem SlV.stable {H : AH} {F : List Nat} {v : Value} {cells : List Value} (h : SlV H v cells) (hv : ∀ j off k, v = .slice (some ⟨j, off, none⟩) cells.length k → j ∉ F) : SlS H F v cells := by
  intro G hg
  rcases h with h | ⟨j, off, b, rfl, hb, hc⟩
  · exact .inl h
  · exact .inr ⟨j, off, b, rfl, by rw [hg j (hget_lt hb) (hv j off _ rfl)]; exact hb, hc⟩
end

section
open Go Go.RowKit
set_option linter.unusedVariables false
set_option linter.unusedSimpArgs false

/-- Does this value point into a block that stays? -/
def inS (S : Nat → Bool) : Value → Bool
  | .pointer (some ⟨i, _, _⟩) => S i
  | .slice (some ⟨i, _, _⟩) _ _ => S i
  | _ => true
def inSp (S : Nat → Bool) : Value → Bool
  | .pointer (some ⟨i, _, _⟩) => S i
  | _ => true
def memS (γ : Nat → Option Nat) (S : Nat → Bool) (op : Op) (α : Fm) : Bool :=
  match op with
  | .load _ x => inS S (α.eval γ x)
  | .convert _ _ x => inS S (α.eval γ x)
  | .slice _ x _ _ _ => inSp S (α.eval γ x)
  | _ => true
theorem xread_same {P : Program} {γ : Nat → Option Nat} {S : Nat → Bool} {op : Op} {α : Fm} {G H : AH} (hs : memS γ S op α = true) (h : ∀ j, S j = true → hget G j = hget H j) : xread P γ op α G = xread P γ op α H := by
  have hl : ∀ t x, inS S x = true → xload P t x G = xload P t x H := fun t x hx => by
    unfold xload
    split
    · rename_i i off
      rw [h i hx]
    · rfl
  have hc : ∀ s d x, inS S x = true → xconv P s d x G = xconv P s d x H := fun s d x hx => by
    unfold xconv
    split
    · rfl
    · rfl
    · rfl
    · rename_i i off len c hd
      rw [h i hx]
    · rfl
  have hsl : ∀ t x lo hi, inSp S x = true → xslice P t x lo hi G = xslice P t x lo hi H := fun t x lo hi hx => by
    unfold xslice
    split
    · rfl
    · rename_i n e i off hu
      rw [h i hx]
    · rfl
    · rfl
    · rfl
  cases op <;> first | rfl | exact hl _ _ hs | exact hc _ _ _ hs | skip
  case slice t x lo hi mx =>
    cases mx with
    | none => exact hsl _ _ _ _ hs
    | some _ => rfl
  case makeFunc fn fs cs => cases fn <;> rfl

/-- Operations that make or write memory. -/
def effF : Op → Bool
  | .store .. | .alloc .. | .box .. | .buildSlice .. | .makeSlice .. => true
  | .call ⟨.builtin .append, _, _⟩ | .call ⟨.builtin .copy, _, _⟩ => true
  | _ => false
def chainF (op : Op) : Bool := isCallF op || effF op
/-- The calls, and what makes or writes memory, in one row, one behind the other. -/
def CL (P : Program) (nro n : Nat) (γ : Nat → Option Nat) (ops : Array Oper) (S : Nat → Bool) (Φ : Nat → AH → Prop) (H : AH) (K : Fm → AH → Prop) : List Oper → Nat → Fm → Prop
  | [], s, α => ∀ G, Φ s G → K α G
  | o :: rest, s, α =>
    match wantedA ops n α o with
    | none => False
    | some false => if chainF o.op = true then (∀ G, Φ s G → Φ (s + 1) G) ∧ CL P nro n γ ops S Φ H K rest (s + 1) (α.put o.dst undef) else CL P nro n γ ops S Φ H K rest s (α.put o.dst undef)
    | some true =>
      if isCallF o.op = true then
        ∃ f args, calleeOf γ α o.op = some (f, args) ∧ callable P f = true ∧ ∃ v, (∀ G, Φ s G → AC P nro γ f args G (fun v' G' => v' = v ∧ Φ (s + 1) G')) ∧ CL P nro n γ ops S Φ H K rest (s + 1) (α.put o.dst v)
      else if effF o.op = true then ∃ v, (∀ G, Φ s G → ∃ G', xeff P nro γ o.op α G = some (v, G') ∧ Φ (s + 1) G') ∧ CL P nro n γ ops S Φ H K rest (s + 1) (α.put o.dst v)
      else ∃ v, xread P γ o.op α H = some v ∧ memS γ S o.op α = true ∧ CL P nro n γ ops S Φ H K rest s (α.put o.dst v)

section
variable {P : Program} {nro n base : Nat} {γ : Nat → Option Nat} {m : List Ent} {H : AH} {α : Fm} {a : Act} {w : World} {Q : Exit → Fm → AH → Prop} {ops : Array Oper} {S : Nat → Bool} {Φ : Nat → AH → Prop} {K : Fm → AH → Prop}
inductive StK where
  | val (v : Value) | call (f : FuncId) (args : Array Value) | no
def CLc (P : Program) (nro n : Nat) (γ : Nat → Option Nat) (ops : Array Oper) (S : Nat → Bool) (Φ : Nat → AH → Prop) (H : AH) (K : Fm → AH → Prop) (g : Option Bool) (c e : Bool) (op : Op) (r : Option Value) (cal : Option (FuncId × Array Value)) (mm : Bool) (d : Option Tmp) (rest : List Oper) (s : Nat) (α : Fm) : Prop :=
  match g with
  | none => False
  | some false => if (c || e) = true then (∀ G, Φ s G → Φ (s + 1) G) ∧ CL P nro n γ ops S Φ H K rest (s + 1) (α.put d undef) else CL P nro n γ ops S Φ H K rest s (α.put d undef)
  | some true =>
    if c = true then ∃ f args, cal = some (f, args) ∧ callable P f = true ∧ ∃ v, (∀ G, Φ s G → AC P nro γ f args G (fun v' G' => v' = v ∧ Φ (s + 1) G')) ∧ CL P nro n γ ops S Φ H K rest (s + 1) (α.put d v)
    else if e = true then ∃ v, (∀ G, Φ s G → ∃ G', xeff P nro γ op α G = some (v, G') ∧ Φ (s + 1) G') ∧ CL P nro n γ ops S Φ H K rest (s + 1) (α.put d v)
    else ∃ v, r = some v ∧ mm = true ∧ CL P nro n γ ops S Φ H K rest s (α.put d v)
theorem CL_nil (s : Nat) : CL P nro n γ ops S Φ H K [] s α = ∀ G, Φ s G → K α G := rfl
theorem CL_cons (o : Oper) (rest : List Oper) (s : Nat) : CL P nro n γ ops S Φ H K (o :: rest) s α = CLc P nro n γ ops S Φ H K (wantedA ops n α o) (isCallF o.op) (effF o.op) o.op (xread P γ o.op α H) (calleeOf γ α o.op) (memS γ S o.op α) o.dst rest s α := by
  unfold CLc
  rw [CL]
  cases wantedA ops n α o with
  | none => rfl
  | some b =>
    cases b <;> rfl
theorem CLc_val (v : Value) (op : Op) (cal : Option (FuncId × Array Value)) (d : Option Tmp) (rest : List Oper) (s : Nat) : CLc P nro n γ ops S Φ H K (some true) false false op (some v) cal true d rest s α = CL P nro n γ ops S Φ H K rest s (α.put d v) := by
  simp [CLc]
theorem CLc_skip (op : Op) (r : Option Value) (cal : Option (FuncId × Array Value)) (mm : Bool) (d : Option Tmp) (rest : List Oper) (s : Nat) : CLc P nro n γ ops S Φ H K (some false) false false op r cal mm d rest s α = CL P nro n γ ops S Φ H K rest s (α.put d undef) := by
  simp [CLc]
theorem CLc_call {f : FuncId} {args : Array Value} {op : Op} {e : Bool} {r : Option Value} {mm : Bool} {d : Option Tmp} {rest : List Oper} {s : Nat} {v : Value} (h1 : callable P f = true) (h2 : ∀ G, Φ s G → AC P nro γ f args G (fun v' G' => v' = v ∧ Φ (s + 1) G')) (h3 : CL P nro n γ ops S Φ H K rest (s + 1) (α.put d v)) :
    CLc P nro n γ ops S Φ H K (some true) true e op r (some (f, args)) mm d rest s α := ⟨f, args, rfl, h1, v, h2, h3⟩
theorem CLc_eff {op : Op} {r : Option Value} {cal : Option (FuncId × Array Value)} {mm : Bool} {d : Option Tmp} {rest : List Oper} {s : Nat} {v : Value} (h2 : ∀ G, Φ s G → ∃ G', xeff P nro γ op α G = some (v, G') ∧ Φ (s + 1) G') (h3 : CL P nro n γ ops S Φ H K rest (s + 1) (α.put d v)) :
    CLc P nro n γ ops S Φ H K (some true) false true op r cal mm d rest s α := ⟨v, h2, h3⟩
theorem CLc_pass {op : Op} {c e : Bool} {r : Option Value} {cal : Option (FuncId × Array Value)} {mm : Bool} {d : Option Tmp} {rest : List Oper} {s : Nat} (hce : (c || e) = true) (h2 : ∀ G, Φ s G → Φ (s + 1) G) (h3 : CL P nro n γ ops S Φ H K rest (s + 1) (α.put d undef)) :
    CLc P nro n γ ops S Φ H K (some false) c e op r cal mm d rest s α := by
  simp only [CLc, hce, if_true]
  exact ⟨h2, h3⟩

/-- The frame behind the first i operations. -/
def frK (ops : Array Oper) (val : Nat → Value) (α : Fm) : Nat → Fm
  | 0 => α
  | i + 1 => (frK ops val α i).put (dstO ops i) (val i)
def isCallAt (ops : Array Oper) (i : Nat) : Bool := match ops[i]? with | some o => chainF o.op | none => false
/-- How many calls stand ahead of it. -/
def cntK (ops : Array Oper) : Nat → Nat
  | 0 => 0
  | i + 1 => if isCallAt ops i = true then cntK ops i + 1 else cntK ops i
theorem cntK_mono {ops : Array Oper} {i j : Nat} (h : i ≤ j) : cntK ops i ≤ cntK ops j := by
  induction j with
  | zero => have : i = 0 := by omega
            subst this; exact Nat.le_refl _
  | succ j ih =>
    rcases Nat.eq_or_lt_of_le h with rfl | h
    · exact Nat.le_refl _
    · have := ih (by omega)
      rw [cntK]
      split <;> omega
theorem cntK_lt {ops : Array Oper} {i j : Nat} (h : i < j) (hi : isCallAt ops i = true) : cntK ops i < cntK ops j := by
  have := cntK_mono (ops := ops) (show i + 1 ≤ j by omega)
  rw [cntK, if_pos hi] at this
  omega
theorem cntK_prev {ops : Array Oper} : ∀ {i : Nat}, 0 < cntK ops i → ∃ j, j < i ∧ isCallAt ops j = true ∧ cntK ops j + 1 = cntK ops i
  | 0, h => by simp [cntK] at h
  | i + 1, h => by
    rw [cntK] at h ⊢
    split at h
    · rename_i hc
      rw [if_pos hc]
      exact ⟨i, by omega, hc, rfl⟩
    · rename_i hc
      rw [if_neg hc]
      obtain ⟨j, h1, h2, h3⟩ := cntK_prev h
      exact ⟨j, by omega, h2, h3⟩
/-- One step of it. -/
def StepK (P : Program) (nro n : Nat) (γ : Nat → Option Nat) (ops : Array Oper) (S : Nat → Bool) (Φ : Nat → AH → Prop) (H : AH) (o : Oper) (s : Nat) (β : Fm) (v : Value) : Prop :=
  (wantedA ops n β o = some false ∧ v = undef ∧ (chainF o.op = true → ∀ G, Φ s G → Φ (s + 1) G)) ∨
  (wantedA ops n β o = some true ∧ isCallF o.op = true ∧ ∃ f args, calleeOf γ β o.op = some (f, args) ∧ callable P f = true ∧ ∀ G, Φ s G → AC P nro γ f args G (fun v' G' => v' = v ∧ Φ (s + 1) G')) ∨
  (wantedA ops n β o = some true ∧ chainF o.op = false ∧ xread P γ o.op β H = some v ∧ memS γ S o.op β = true) ∨
  (wantedA ops n β o = some true ∧ chainF o.op = true ∧ isCallF o.op = false ∧ ∀ G, Φ s G → ∃ G', xeff P nro γ o.op β G = some (v, G') ∧ Φ (s + 1) G')
theorem CL.unroll : ∀ (l : List Oper) (k s : Nat) (α : Fm), (∀ i o, l[i]? = some o → ops[k + i]? = some o) → CL P nro n γ ops S Φ H K l s α →
    ∃ (val : Nat → Value) (fr : Nat → Fm) (st : Nat → Nat), fr 0 = α ∧ st 0 = s ∧ (∀ i o, l[i]? = some o → StepK P nro n γ ops S Φ H o (st i) (fr i) (val i) ∧ fr (i + 1) = (fr i).put o.dst (val i) ∧ st (i + 1) = if chainF o.op = true then st i + 1 else st i) ∧ ∀ G, Φ (st l.length) G → K (fr l.length) G
  | [], k, s, α, hl, h => ⟨fun _ => undef, fun _ => α, fun _ => s, rfl, rfl, fun i o hi => by simp at hi, h⟩
  | o :: rest, k, s, α, hl, h => by
    have ho := hl 0 o rfl
    have hr : ∀ i o', rest[i]? = some o' → ops[k + 1 + i]? = some o' := fun i o' hi => by
      have := hl (i + 1) o' (by simpa using hi)
      rwa [show k + (i + 1) = k + 1 + i by omega] at this
    have go : ∀ (v : Value) (s' : Nat), StepK P nro n γ ops S Φ H o s α v → s' = (if chainF o.op = true then s + 1 else s) → CL P nro n γ ops S Φ H K rest s' (α.put o.dst v) →
        ∃ (val : Nat → Value) (fr : Nat → Fm) (st : Nat → Nat), fr 0 = α ∧ st 0 = s ∧ (∀ i o', (o :: rest)[i]? = some o' → StepK P nro n γ ops S Φ H o' (st i) (fr i) (val i) ∧ fr (i + 1) = (fr i).put o'.dst (val i) ∧ st (i + 1) = if chainF o'.op = true then st i + 1 else st i) ∧ ∀ G, Φ (st (o :: rest).length) G → K (fr (o :: rest).length) G := by
      intro v s' hst hs' hc
      obtain ⟨val, fr, st, h1, h2, h3, h4⟩ := CL.unroll rest (k + 1) s' _ hr hc
      refine ⟨fun i => match i with | 0 => v | i + 1 => val i, fun i => match i with | 0 => α | i + 1 => fr i, fun i => match i with | 0 => s | i + 1 => st i, rfl, rfl, fun i o' hi => ?_, h4⟩
      cases i with
      | zero =>
        simp at hi
        subst hi
        exact ⟨hst, h1, by show st 0 = _; rw [h2, hs']⟩
      | succ i => exact h3 i o' (by simpa using hi)
    unfold CL at h
    cases hw : wantedA ops n α o with
    | none => rw [hw] at h; exact h.elim
    | some b =>
      rw [hw] at h
      cases b with
      | false =>
        cases hc : chainF o.op with
        | true =>
          simp only [hc, if_true] at h
          exact go undef (s + 1) (.inl ⟨hw, rfl, fun _ => h.1⟩) (by simp [hc]) h.2
        | false =>
          simp only [hc, Bool.false_eq_true, if_false] at h
          exact go undef s (.inl ⟨hw, rfl, fun e => by rw [hc] at e; cases e⟩) (by simp [hc]) h
      | true =>
        cases hc : isCallF o.op with
        | true =>
          simp only [hc, if_true] at h
          obtain ⟨f, args, h1, h2, v, h3, h4⟩ := h
          exact go v (s + 1) (.inr (.inl ⟨hw, hc, f, args, h1, h2, h3⟩)) (by simp [chainF, hc]) h4
        | false =>
          cases he : effF o.op with
          | true =>
            simp only [hc, he, Bool.false_eq_true, if_false, if_true] at h
            obtain ⟨v, h1, h2⟩ := h
            exact go v (s + 1) (.inr (.inr (.inr ⟨hw, by simp [chainF, he], hc, h1⟩))) (by simp [chainF, he]) h2
          | false =>
            simp only [hc, he, Bool.false_eq_true, if_false] at h
            obtain ⟨v, h1, h2, h3⟩ := h
            exact go v s (.inr (.inr (.inl ⟨hw, by simp [chainF, hc, he], h1, h2⟩))) (by simp [chainF, hc, he]) h3

/-- What the rule asks of a region's edges. -/
def chainB (ops : Array Oper) : Bool :=
  (List.range ops.size).all fun i => match ops[i]? with
    | none => false
    | some o => (o.after.all fun e => !(Region.binds .any e) || decide (e.on < i)) &&
      ((List.range ops.size).all fun j => decide (j = i) || (match dstO ops j with
        | none => true
        | some t => decide (dstO ops i ≠ some t) && (!((o.looksAt ops).contains t) || (decide (j < i) && Region.waitsFor .any ops i j) || (decide (i < j) && Region.waitsFor .any ops j i)))) &&
      (!(chainF o.op) || (List.range i).all fun j => !(isCallAt ops j) || waitsT ops ops.size i j)

def unl (listed : Array Bool) : Nat → Nat
  | 0 => 0
  | k + 1 => unl listed k + if listed.getD k true = false then 1 else 0
theorem unl_same {listed : Array Bool} {i : Nat} : ∀ {k : Nat}, k ≤ i → unl (listed.setIfInBounds i true) k = unl listed k
  | 0, _ => rfl
  | k + 1, h => by
    have := unl_same (listed := listed) (i := i) (k := k) (by omega)
    simp only [unl]
    rw [this, getD_set_ne true (by omega)]
theorem unl_set {listed : Array Bool} {i : Nat} (hl : i < listed.size) (hi : listed.getD i true = false) : ∀ {k : Nat}, i < k → unl (listed.setIfInBounds i true) k + 1 = unl listed k
  | 0, h => by omega
  | k + 1, h => by
    simp only [unl]
    by_cases e : i = k
    · subst e
      rw [unl_same (k := i) (Nat.le_refl _), hi]
      have : (listed.setIfInBounds i true).getD i true = true := by simp [hl]
      rw [this]; simp
    · rw [getD_set_ne true e]
      have h2 := unl_set (listed := listed) hl hi (k := k) (by omega)
      omega
theorem unl_zero {listed : Array Bool} : ∀ {k : Nat}, unl listed k = 0 → ∀ i, i < k → listed.getD i true = true
  | 0, _, i, hi => by omega
  | k + 1, h, i, hi => by
    rw [unl] at h
    by_cases e : i = k
    · subst e
      cases hq : listed.getD i true with
      | true => rfl
      | false => rw [hq] at h; simp at h
    · exact unl_zero (listed := listed) (k := k) (by omega) i (by omega)
theorem unl_all (k n : Nat) (h : k ≤ n) : unl (Array.replicate n false) k = k := by
  induction k with
  | zero => rfl
  | succ k ih =>
    rw [unl, ih (by omega)]
    have : (Array.replicate n false).getD k true = false := by simp [show k < n by omega]
    rw [this]; simp
theorem getD_tf {l : Array Bool} {i : Nat} (h : i < l.size) : l.getD i true = l.getD i false := by simp [h]

theorem rep_getD (n i : Nat) : (Array.replicate n false).getD i false = false := by
  rw [Array.getD_eq_getD_getElem?, Array.getElem?_replicate]
  split <;> rfl
/-- What stands between. -/
structure KInv (P : Program) (nro n base : Nat) (γ : Nat → Option Nat) (ops : Array Oper) (Φ : Nat → AH → Prop) (m0 : List Ent) (w0 : World) (α : Fm) (val : Nat → Value) (listed : Array Bool) (a : Act) (w : World) (m : List Ent) (G : AH) (α' : Fm) (s : Nat) : Prop where
  pre : m0 <+: m
  rel : Rel nro base γ m G w
  fr : FR n m α' a
  below : Below base w0 w
  phi : Φ s G
  stage : ∀ i, isCallAt ops i = true → (listed.getD i false = true ↔ cntK ops i < s)
  got : ∀ i t, listed.getD i false = true → dstO ops i = some t → α' t = val i
  old : ∀ t, (∀ i, listed.getD i false = true → dstO ops i ≠ some t) → α' t = α t
  sle : s ≤ cntK ops ops.size
theorem chain_run {l : List Oper} (hl : l.toArray = ops) (hok : okL n γ l = true) (hB : chainB ops = true) (hS : ∀ s G, Φ s G → ∀ j, S j = true → hget G j = hget H j) {val : Nat → Value} {fr : Nat → Fm} {st : Nat → Nat} (hf0 : fr 0 = α) (hst0 : st 0 = 0)
    (hstep : ∀ i o, l[i]? = some o → StepK P nro n γ ops S Φ H o (st i) (fr i) (val i) ∧ fr (i + 1) = (fr i).put o.dst (val i) ∧ st (i + 1) = if chainF o.op = true then st i + 1 else st i)
    (hK : ∀ G, Φ (st l.length) G → Q .normal (fr l.length) G) {w0 : World} {m0 : List Ent} : ∀ (f : Nat) (listed : Array Bool) (a : Act) (w : World) (m : List Ent) (G : AH) (α' : Fm) (s : Nat),
    unl listed ops.size = f → listed.size = ops.size → Closed ops listed → KInv P nro n base γ ops Φ m0 w0 α val listed a w m G α' s → wpAny P .any ops (Con nro n γ m0 base w0 Q) f listed a w := by
  have hN : ops.size = l.length := by rw [← hl]; simp
  have hlo : ∀ (i : Nat) (o : Oper), ops[i]? = some o → l[i]? = some o := fun i o h => by subst hl; rw [List.getElem?_toArray] at h; exact h
  have hB1 : ∀ (i : Nat) (o : Oper), ops[i]? = some o → (∀ e ∈ o.after, Region.binds .any e = true → e.on < i) ∧ (∀ j t, j ≠ i → dstO ops j = some t → dstO ops i ≠ some t ∧ (t ∈ o.looksAt ops → (j < i ∧ Region.waitsFor .any ops i j = true) ∨ (i < j ∧ Region.waitsFor .any ops j i = true))) ∧ (chainF o.op = true → ∀ j, j < i → isCallAt ops j = true → waitsT ops ops.size i j = true) := by
    intro i o ho
    have hi : i < ops.size := (Array.getElem?_eq_some_iff.1 ho).1
    unfold chainB at hB
    have h1 := List.all_eq_true.1 hB i (by simpa using hi)
    rw [ho] at h1
    simp only [Bool.and_eq_true] at h1
    obtain ⟨⟨h1, h2⟩, h3⟩ := h1
    refine ⟨fun e he hb => ?_, fun j t hj hd => ?_, fun hc j hj hcj => ?_⟩
    · have := (Array.all_eq_true_iff_forall_mem.1 h1) e he
      simpa [hb] using this
    · have hjl : j < ops.size := by
        unfold dstO at hd
        cases hq : ops[j]? with
        | none => rw [hq] at hd; cases hd
        | some _ => exact (Array.getElem?_eq_some_iff.1 hq).1
      have := List.all_eq_true.1 h2 j (by simpa using hjl)
      rw [hd] at this
      simp only [Bool.or_eq_true, decide_eq_true_eq, Bool.and_eq_true, Bool.not_eq_true'] at this
      rcases this with h | ⟨h4, h5⟩
      · exact absurd h hj
      · refine ⟨h4, fun ht => ?_⟩
        rcases h5 with (h5 | h5) | h5
        · have : (o.looksAt ops).contains t = true := by simpa using ht
          rw [this] at h5; cases h5
        · exact .inl h5
        · exact .inr h5
    · rw [hc] at h3
      simp only [Bool.not_true, Bool.false_or] at h3
      have := List.all_eq_true.1 h3 j (by simpa using hj)
      simpa [hcj] using this
  have huniq : ∀ i j t, i < ops.size → dstO ops i = some t → dstO ops j = some t → i = j := by
    intro i j t hi h1 h2
    rcases Classical.em (j = i) with e | e
    · exact e.symm
    · exact absurd h1 ((hB1 i _ (Array.getElem?_eq_getElem hi)).2.1 j t e h2).1
  have dlt : ∀ {j t}, dstO ops j = some t → j < ops.size := fun {j t} hd => by
    unfold dstO at hd
    cases hq : ops[j]? with
    | none => rw [hq] at hd; cases hd
    | some _ => exact (Array.getElem?_eq_some_iff.1 hq).1
  have hcall : ∀ (i : Nat) (o : Oper), ops[i]? = some o → isCallAt ops i = chainF o.op := fun i o ho => by simp [isCallAt, ho]
  have hst : ∀ i, i ≤ ops.size → st i = cntK ops i := by
    intro i
    induction i with
    | zero => intro _; rw [hst0]; rfl
    | succ i ih =>
      intro hi
      have ho := Array.getElem?_eq_getElem (show i < ops.size by omega)
      rw [(hstep i _ (hlo i _ ho)).2.2, cntK, hcall i _ ho, ih (by omega)]
  have hfr : ∀ i, i ≤ ops.size → ∀ t, (∀ j, j < i → dstO ops j = some t → fr i t = val j) ∧ ((∀ j, j < i → dstO ops j ≠ some t) → fr i t = α t) := by
    intro i
    induction i with
    | zero => intro _ t; exact ⟨fun j hj => by omega, fun _ => by rw [hf0]⟩
    | succ i ih =>
      intro hi t
      have ho := Array.getElem?_eq_getElem (show i < ops.size by omega)
      have hd : dstO ops i = (ops[i]'(by omega)).dst := by simp [dstO, ho]
      rw [(hstep i _ (hlo i _ ho)).2.1, ← hd]
      obtain ⟨h1, h2⟩ := ih (by omega) t
      refine ⟨fun j hj hdj => ?_, fun hno => ?_⟩
      · by_cases e : j = i
        · subst e; rw [hdj]; simp [Fm.put]
        · have hne : dstO ops i ≠ some t := fun h => e (huniq j i t (dlt hdj) hdj h)
          have : (fr i).put (dstO ops i) (val i) t = fr i t := by
            cases hq : dstO ops i with
            | none => rfl
            | some d => rw [hq] at hne; simp only [Fm.put]; rw [if_neg (fun e => hne (by rw [e]))]
          rw [this]
          exact h1 j (by omega) hdj
      · have hne := hno i (by omega)
        have : (fr i).put (dstO ops i) (val i) t = fr i t := by
          cases hq : dstO ops i with
          | none => rfl
          | some d => rw [hq] at hne; simp only [Fm.put]; rw [if_neg (fun e => hne (by rw [e]))]
        rw [this]
        exact h2 fun j hj => hno j (by omega)
  intro f
  induction f with
  | zero =>
    intro listed a w m G α' s hu hsz hcl hI
    have hall := unl_zero hu
    have hready : Region.ready .any ops listed = [] := by
      rw [List.eq_nil_iff_forall_not_mem]
      intro i hi
      obtain ⟨hun, o, ho, _⟩ := mem_ready.1 hi
      rw [hall i (Array.getElem?_eq_some_iff.1 ho).1] at hun
      cases hun
    have hall' : ∀ i, i < ops.size → listed.getD i false = true := fun i hi => by rw [← getD_tf (by omega)]; exact hall i hi
    have hs : s = st l.length := by
      rw [← hN, hst _ (Nat.le_refl _)]
      have h1 := hI.sle
      rcases Nat.eq_zero_or_pos (cntK ops ops.size) with h0 | h0
      · omega
      · obtain ⟨j, hj, hcj, hcc⟩ := cntK_prev h0
        have := (hI.stage j hcj).1 (hall' j hj)
        omega
    have hα : ∀ t, α' t = fr l.length t := by
      intro t
      rw [← hN]
      obtain ⟨h1, h2⟩ := hfr ops.size (Nat.le_refl _) t
      by_cases h : ∃ j, j < ops.size ∧ dstO ops j = some t
      · obtain ⟨j, hj, hd⟩ := h
        rw [hI.got j t (hall' j hj) hd, h1 j hj hd]
      · rw [hI.old t (fun i _ hd => h ⟨i, dlt hd, hd⟩), h2 (fun j hj hd => h ⟨j, hj, hd⟩)]
    have hαe : α' = fr l.length := funext hα
    refine ⟨hready, m, α', G, hI.pre, hI.rel, hI.fr, hI.below, ?_⟩
    rw [hαe]
    exact hK G (hs ▸ hI.phi)
  | succ f ih =>
    intro listed a w m G α' s hu hsz hcl hI
    refine ⟨fun h0 => ?_, fun i hi => ?_⟩
    · exfalso
      -- the first that is not listed is ready
      obtain ⟨i, hi, hmin⟩ := least (p := fun i => i < ops.size ∧ listed.getD i true = false) (by
        refine Classical.byContradiction fun hno => ?_
        have : ∀ k, k ≤ ops.size → unl listed k = 0 := by
          intro k
          induction k with
          | zero => intro _; rfl
          | succ k ih =>
            intro hk
            rw [unl, ih (by omega)]
            cases hq : listed.getD k true with
            | true => simp
            | false => exact absurd ⟨k, by omega, hq⟩ hno
        have := this ops.size (Nat.le_refl _)
        omega)
      have ho := Array.getElem?_eq_getElem hi.1
      have : i ∈ Region.ready .any ops listed := mem_ready.2 ⟨hi.2, _, ho, fun e he hb => by
        have h1 := (hB1 i _ ho).1 e he hb
        have h2 := hmin e.on h1
        rw [← getD_tf (by omega)]
        cases hq : listed.getD e.on true with
        | true => rfl
        | false => exact absurd ⟨by omega, hq⟩ h2⟩
      rw [h0] at this
      cases this
    · obtain ⟨hun, o, ho, hall⟩ := mem_ready.1 hi
      have hil : i < ops.size := (Array.getElem?_eq_some_iff.1 ho).1
      have hunf : listed.getD i false = false := by rw [← getD_tf (by omega)]; exact hun
      obtain ⟨hb1, hb2, hb3⟩ := hB1 i o ho
      have hli := hlo i o ho
      obtain ⟨hst1, _, _⟩ := hstep i o hli
      have hd : dstO ops i = o.dst := by simp [dstO, ho]
      have hmemo := List.mem_of_getElem? hli
      have hoko : o.op.operands.all (okOpd n γ) = true := List.all_eq_true.1 hok o hmemo
      -- what it looks at is as in the row
      have hlook : ∀ t, t ∈ o.looksAt ops → α' t = fr i t := by
        intro t ht
        obtain ⟨h1, h2⟩ := hfr i (by omega) t
        by_cases hex : ∃ j, dstO ops j = some t
        · obtain ⟨j, hdj⟩ := hex
          by_cases hji : j = i
          · subst hji
            rw [hI.old t (fun i' hl' hd' => ?_), h2 (fun j' hj' hd' => ?_)]
            · have := huniq _ _ t (dlt hd') hd' hdj
              omega
            · have := huniq _ _ t (dlt hd') hd' hdj
              subst this
              rw [hunf] at hl'; cases hl'
          · rcases (hb2 j t hji hdj).2 ht with ⟨hlt, hw⟩ | ⟨hlt, hw⟩
            · obtain ⟨oj, hoj, e, he, hbe, hon⟩ := Region.waitsFor_spec hw
              rw [ho] at hoj
              cases hoj
              have hlj : listed.getD j false = true := by rw [← hon]; exact hall e he hbe
              rw [hI.got j t hlj hdj, h1 j hlt hdj]
            · have hlj : listed.getD j false = false := by
                cases hq : listed.getD j false with
                | false => rfl
                | true =>
                  obtain ⟨oj, hoj, e, he, hbe, hon⟩ := Region.waitsFor_spec hw
                  have hjs : j < listed.size := getD_lt hq
                  have := hcl j oj hoj (by rw [getD_tf hjs]; exact hq) e he hbe
                  rw [hon, hunf] at this; cases this
              rw [hI.old t (fun i' hl' hd' => ?_), h2 (fun j' hj' hd' => ?_)]
              · have := huniq _ _ t (dlt hd') hd' hdj
                omega
              · have := huniq _ _ t (dlt hd') hd' hdj
                subst this
                rw [hlj] at hl'; cases hl'
        · rw [hI.old t (fun i' _ hd' => hex ⟨i', hd'⟩), h2 (fun j' _ hd' => hex ⟨j', hd'⟩)]
      have hmem : ∀ t, Operand.tmp t ∈ o.op.operands → t ∈ o.looksAt ops := fun t ht => List.mem_append_left _ (List.mem_filterMap.2 ⟨.tmp t, by simpa using ht, rfl⟩)
      have hg : ∀ d ∈ guardT ops o, d < n → V m (fr i d) (a.tmps.getD d undef) := fun d hdm hn => by
        rw [← hlook d (guard_looks hdm)]; exact hI.fr.val d hn
      have hev : ∀ x ∈ o.op.operands, V m ((fr i).eval γ x) (a.eval x) := fun x hx => eval_ev hI.rel (by
          obtain ⟨q, hq, rfl⟩ := Array.mem_iff_getElem.1 hx
          exact (Array.all_eq_true.1 hoko) q hq) fun t ht htn => by
        subst ht
        rw [← hlook t (hmem t hx)]; exact hI.fr.val t htn
      -- the next state
      have hcl' := hcl.put ho hall
      have hu' : unl (listed.setIfInBounds i true) ops.size = f := by
        have := unl_set (listed := listed) (by omega) hun hil
        omega
      have lget : ∀ x, (listed.setIfInBounds i true).getD x false = true → x = i ∨ listed.getD x false = true := by
        intro x hx
        by_cases e : i = x
        · exact .inl e.symm
        · rw [getD_set_ne false e] at hx; exact .inr hx
      have lself : (listed.setIfInBounds i true).getD i false = true := getD_set_self (by omega)
      have lmono : ∀ x, listed.getD x false = true → (listed.setIfInBounds i true).getD x false = true := fun x hx => getD_set_true hx
      have hstage : ∀ s', (chainF o.op = true → s' = cntK ops i + 1) → (chainF o.op = false → s' = s) → (chainF o.op = true → s = cntK ops i) →
          ∀ j, isCallAt ops j = true → ((listed.setIfInBounds i true).getD j false = true ↔ cntK ops j < s') := by
        intro s' h1 h2 h3 j hj
        have hjl : j < ops.size := by
          unfold isCallAt at hj
          cases hq : ops[j]? with
          | none => rw [hq] at hj; cases hj
          | some _ => exact (Array.getElem?_eq_some_iff.1 hq).1
        cases hc : chainF o.op with
        | false =>
          rw [h2 hc]
          have hne : i ≠ j := fun e => by subst e; rw [hcall i o ho, hc] at hj; cases hj
          rw [getD_set_ne false hne]
          exact hI.stage j hj
        | true =>
          rw [h1 hc]
          by_cases e : i = j
          · subst e
            exact ⟨fun _ => by omega, fun _ => lself⟩
          · rw [getD_set_ne false e, hI.stage j hj, h3 hc]
            have hci : isCallAt ops i = true := by rw [hcall i o ho, hc]
            constructor
            · intro h; omega
            · intro h
              rcases Nat.lt_or_gt_of_ne e with hij | hij
              · have := cntK_lt hij hci; omega
              · exact cntK_lt hij hj
      have hseq : chainF o.op = true → s = cntK ops i := by
        intro hc
        have hci : isCallAt ops i = true := by rw [hcall i o ho, hc]
        have h1 : ¬ cntK ops i < s := fun h => by
          have := (hI.stage i hci).2 h
          rw [hunf] at this; cases this
        rcases Nat.eq_zero_or_pos (cntK ops i) with h0 | h0
        · omega
        · obtain ⟨j, hj, hcj, hcc⟩ := cntK_prev h0
          have hwt := hb3 hc j hj hcj
          have hlj : listed.getD j false = true := by
            cases hq : listed.getD j true with
            | true => rw [← getD_tf (by omega)]; exact hq
            | false =>
              obtain ⟨o', ho', e, he, hbe, hon⟩ := waitsT_spec hcl hq _ _ hwt
              rw [ho] at ho'
              cases ho'
              rw [hall e he hbe] at hon; cases hon
          have := (hI.stage j hcj).1 hlj
          omega
      have fin : ∀ (v' : Value) (w' : World) (m' : List Ent) (G' : AH) (s' : Nat), m <+: m' → Rel nro base γ m' G' w' → V m' (val i) v' → Below base w w' → Φ s' G' → (chainF o.op = true → s' = cntK ops i + 1) → (chainF o.op = false → s' = s) →
          KInv P nro n base γ ops Φ m0 w0 α val (listed.setIfInBounds i true) (a.put o.dst v') w' m' G' (α'.put o.dst (val i)) s' := by
        intro v' w' m' G' s' hm hR hV hb hΦ hs1 hs2
        refine ⟨hI.pre.trans hm, hR, (hI.fr.mono hm).put hV, hI.below.trans hb, hΦ, hstage s' hs1 hs2 hseq, fun j t hlj hdj => ?_, fun t hno => ?_, ?_⟩
        · by_cases e : j = i
          · subst e
            rw [hd] at hdj
            rw [hdj]; simp [Fm.put]
          · have hne : o.dst ≠ some t := fun h => e (huniq j i t (dlt hdj) hdj (hd.trans h))
            have hlj' : listed.getD j false = true := by rcases lget j hlj with h | h; exact absurd h e; exact h
            have : α'.put o.dst (val i) t = α' t := by
              cases hq : o.dst with
              | none => rfl
              | some d => rw [hq] at hne; simp only [Fm.put]; rw [if_neg (fun e => hne (by rw [e]))]
            rw [this]
            exact hI.got j t hlj' hdj
        · have hne : o.dst ≠ some t := by rw [← hd]; exact hno i lself
          have : α'.put o.dst (val i) t = α' t := by
            cases hq : o.dst with
            | none => rfl
            | some d => rw [hq] at hne; simp only [Fm.put]; rw [if_neg (fun e => hne (by rw [e]))]
          rw [this]
          exact hI.old t fun j hj => hno j (lmono j hj)
        · cases hc : chainF o.op with
          | false => rw [hs2 hc]; exact hI.sle
          | true =>
            rw [hs1 hc]
            have := cntK_lt hil (by rw [hcall i o ho, hc])
            omega
      have hsti := hst i (by omega)
      unfold wpOp
      simp only [ho]
      rcases hst1 with ⟨hw, hv, hp⟩ | ⟨hw, hcf, f', args, hca, hcal, hac⟩ | ⟨hw, hcf, hx, hms⟩ | ⟨hw, hcf, hncf, hx⟩
      · rw [wantedA_ev hI.fr.size hg hw]
        simp only [Bool.false_eq_true, if_false]
        cases hc : chainF o.op with
        | false => exact ih _ _ _ _ _ _ _ hu' (by simpa using hsz) hcl' (fin undef w m G s List.prefix_rfl hI.rel (by rw [hv]; exact plainV_mk plainV_undef) (.refl _ _) hI.phi (fun h => by rw [hc] at h; cases h) (fun _ => rfl))
        | true =>
          have hss := hseq hc
          refine ih _ _ _ _ _ _ _ hu' (by simpa using hsz) hcl' (fin undef w m G (s + 1) List.prefix_rfl hI.rel (by rw [hv]; exact plainV_mk plainV_undef) (.refl _ _) ?_ (fun _ => by omega) (fun h => by rw [hc] at h; cases h))
          have := hp hc G (by rw [hsti, ← hss]; exact hI.phi)
          rwa [hsti, ← hss] at this
      · rw [wantedA_ev hI.fr.size hg hw]
        simp only [if_true]
        refine .inl ?_
        have hcf2 : chainF o.op = true := by simp [chainF, hcf]
        have hss := hseq hcf2
        obtain ⟨xs, ts, hop, rfl⟩ := callee_ops hca
        unfold Oper.wp
        have hxs : ∀ x ∈ xs, x ∈ o.op.operands := fun x hx => by
          rw [hop]
          simp only [Op.operands, Call.operands]
          exact Array.mem_append.2 (.inr hx)
        have hargs : ∀ (k : Nat) (x : Value), (xs.map ((fr i).eval γ))[k]? = some x → ∃ y, (xs.map a.eval)[k]? = some y ∧ V m x y := fun k x hx => by
          rw [Array.getElem?_map] at hx ⊢
          cases hq : xs[k]? with
          | none => rw [hq] at hx; cases hx
          | some q =>
            rw [hq] at hx
            cases hx
            exact ⟨_, rfl, hev q (hxs q (by obtain ⟨hk, he⟩ := Array.getElem?_eq_some_iff.1 hq; rw [← he]; exact Array.getElem_mem hk))⟩
        have hphi : Φ (st i) G := by rw [hsti, ← hss]; exact hI.phi
        rcases hac G hphi m base w (xs.map a.eval) hI.rel (by simp) hargs with ⟨hbd, hac'⟩ | ⟨v0, hrun, m', v, v', H', he, hm, hv, hR', hb, hx, hx2⟩
        · rw [call_run hop hcal hbd, Oper.upon_enter]
          refine hac'.mono ?_
          rintro e w' ⟨m', v, v', H', rfl, hm, hv, hR', hb, hx, hx2⟩
          subst hx
          exact ih _ _ _ _ _ _ _ hu' (by simpa using hsz) hcl' (fin v' w' m' H' (st i + 1) hm hR' hv hb hx2 (fun _ => by omega) (fun h => by rw [hcf2] at h; cases h))
        · cases he
          subst hx
          rw [call_runV hop hrun, Oper.upon_value]
          exact ih _ _ _ _ _ _ _ hu' (by simpa using hsz) hcl' (fin v0 w m' H' (st i + 1) hm hR' hv hb hx2 (fun _ => by omega) (fun h => by rw [hcf2] at h; cases h))
      · rw [wantedA_ev hI.fr.size hg hw]
        simp only [if_true]
        refine .inl ?_
        rw [← xread_same hms (hS s G hI.phi)] at hx
        obtain ⟨v', h1, h2⟩ := xread_ev hI.rel hev hx
        unfold Oper.wp
        rw [h2 w (.refl _ _)]
        exact ih _ _ _ _ _ _ _ hu' (by simpa using hsz) hcl' (fin v' w m G s List.prefix_rfl hI.rel h1 (.refl _ _) hI.phi (fun h => by rw [hcf] at h; cases h) (fun _ => rfl))
      · rw [wantedA_ev hI.fr.size hg hw]
        simp only [if_true]
        refine .inl ?_
        have hss := hseq hcf
        have hphi : Φ (st i) G := by rw [hsti, ← hss]; exact hI.phi
        obtain ⟨G', hxe, hpe⟩ := hx G hphi
        obtain ⟨m', x, w', v', h1, h2, h3, h4, h5, h6⟩ := xeff_ev hI.rel hev hxe
        have hnext := ih _ (a.put o.dst v') w' m' G' (α'.put o.dst (val i)) (st i + 1) hu' (by simpa using hsz) hcl' (fin v' w' m' G' (st i + 1) h3 h5 h4 h6 hpe (fun _ => by omega) (fun h => by rw [hcf] at h; cases h))
        unfold Oper.wp
        rw [h1]
        rcases h2 with rfl | ⟨rfl, rfl⟩
        · exact hnext
        · exact hnext
theorem aw_chain {id : Nat} {l : List Oper} (S : Nat → Bool) (Φ : Nat → AH → Prop) (hm : P.follows .mixedOrders = true) (hB : chainB l.toArray = true) (hok : okL n γ l = true) (hS : ∀ s G, Φ s G → ∀ j, S j = true → hget G j = hget H j) (h0 : Φ 0 H)
    (h : ∀ K : Fm → AH → Prop, (∀ α' H', Q .normal α' H' → K α' H') → CL P nro n γ l.toArray S Φ H K l 0 α) : AW P nro n γ (.region id l.toArray true) Q α H := by
  intro m base w a hR hF
  refine wp_region_any hm ?_
  obtain ⟨val, fr, st, hf0, hs0, hstep, hK⟩ := CL.unroll l 0 0 α (fun i o ho => by simpa using ho) (h (Q .normal) fun _ _ h => h)
  have := chain_run (P := P) (Q := Q) (S := S) (ops := l.toArray) (n := n) (base := base) rfl hok hB hS hf0 hs0 hstep hK (w0 := w) (m0 := m) l.length (Array.replicate l.length false) a { w with drawn := w.drawn + 1 } m H α 0
    (by simpa using unl_all l.length l.length (Nat.le_refl _)) (by simp) (fun k o hk hl => by simp [show k < l.length by have := (Array.getElem?_eq_some_iff.1 hk).1; simpa using this] at hl)
    ⟨List.prefix_rfl, hR.drewN 1, hF, Below.drew (.refl base w), h0, fun i hi => by rw [rep_getD]; simp, fun i t hl => (by rw [rep_getD] at hl; cases hl), fun t _ => rfl, Nat.zero_le _⟩
  simpa using this
end
end

section
open Go Go.RowKit Go.ChangeShapes Go.WideShapes Go.ChangeAt
set_option linter.unusedVariables false
set_option linter.unusedSimpArgs false

inductive FK where
  | int (k : IntKind) | str | bool | isl (k : IntKind)
inductive FD where
  | int (k : IntKind) (z : Int) | str (s : ByteArray) | bool (b : Bool) | isl (k : IntKind) (zs : List Int)
/-- Is this datum of that kind? -/
def FD.ok : FK → FD → Prop
  | .int k, .int k' z => k' = k ∧ (Lit.int k z).wf = true
  | .str, .str s => s.size ≤ maxLen
  | .bool, .bool _ => True
  | .isl k, .isl k' zs => k' = k ∧ (∀ n ∈ zs, (Lit.int k n).wf = true) ∧ zs.length ≤ maxLen
  | _, _ => False
/-- Does this told value show it? -/
def FD.val (H : AH) : FD → Value → Prop
  | .int k z, v => v = .int k z
  | .str s, v => v = .string s
  | .bool b, v => v = .bool b
  | .isl k zs, v => SlV H v (iv k zs)
theorem SlV.keep {H H' : AH} {v : Value} {cells : List Value} (h : SlV H v cells) (hl : ∀ j, j < H.length → hget H' j = hget H j) : SlV H' v cells := by
  rcases h with h | ⟨j, off, k, h1, h2, h3⟩
  · exact .inl h
  · exact .inr ⟨j, off, k, h1, by rw [hl j (hget_lt h2)]; exact h2, h3⟩
theorem FD.val.keep {H H' : AH} {d : FD} {v : Value} (h : d.val H v) (hl : ∀ j, j < H.length → hget H' j = hget H j) : d.val H' v := by
  cases d with
  | isl k zs => exact SlV.keep h hl
  | _ => exact h
/-- A slice value that shows these rows. -/
def SlR (sz : Nat) (H : AH) (v : Value) (rows : List (List FD)) : Prop :=
  (∃ a, v = .slice a 0 0 ∧ rows = []) ∨ ∃ j k, v = .slice (some ⟨j, 0, none⟩) rows.length rows.length ∧ hget H j = some k ∧ rows.length * sz ≤ k.cells.length ∧
    ∀ (i : Nat) (row : List FD), rows[i]? = some row → row.length = sz ∧ ∀ (c : Nat) (d : FD), row[c]? = some d → ∃ x, k.cells[i * sz + c]? = some x ∧ d.val H x
theorem SlR.low {sz : Nat} {H H' : AH} {v : Value} {rows : List (List FD)} (h : SlR sz H v rows) (hl : ∀ j, j < H.length → hget H' j = hget H j) : SlR sz H' v rows := by
  rcases h with h | ⟨j, k, h1, h2, h3, h4⟩
  · exact .inl h
  · refine .inr ⟨j, k, h1, by rw [hl j (hget_lt h2)]; exact h2, h3, fun i row hr => ⟨(h4 i row hr).1, fun c d hd => ?_⟩⟩
    obtain ⟨x, hx, hv⟩ := (h4 i row hr).2 c d hd
    exact ⟨x, hx, hv.keep hl⟩
theorem SlR.len {P : Program} {sz : Nat} {H : AH} {v : Value} {rows : List (List FD)} {t e : TypeId} (h : SlR sz H v rows) (ht : und P t = .slice e) : xlen P t v = some (.int .i64 rows.length) := by
  rcases h with ⟨a, rfl, rfl⟩ | ⟨j, k, rfl, _⟩
  · simp [xlen, ht]
  · simp [xlen, ht]
/-- One row, by its address. -/
theorem SlR.at {P : Program} {sz : Nat} {H : AH} {v : Value} {rows : List (List FD)} {t e : TypeId} (h : SlR sz H v rows) (ht : und P t = .slice e) (hs : szt P e = sz) (h0 : 0 < sz) (hd : isAggD (und P e) = true) {i : Nat} {row : List FD} (hi : rows[i]? = some row) :
    ∃ (p : Value) (vs : List Value), xindexAddr P t v (.int .i64 (i : Nat)) = some p ∧ xload P e p H = some (.agg vs.toArray) ∧ vs.length = sz ∧ row.length = sz ∧ ∀ (c : Nat) (d : FD), row[c]? = some d → ∃ x, vs[c]? = some x ∧ d.val H x := by
  have hil : i < rows.length := (List.getElem?_eq_some_iff.1 hi).1
  rcases h with ⟨a, rfl, rfl⟩ | ⟨j, b, rfl, hb, hc, hk⟩
  · simp at hi
  · have h2 : i * sz + sz ≤ b.cells.length := by
      have : (i + 1) * sz ≤ rows.length * sz := Nat.mul_le_mul_right _ hil
      rw [Nat.add_mul] at this
      omega
    obtain ⟨hrl, hrow⟩ := hk i row hi
    refine ⟨.pointer (some ⟨j, i * sz, none⟩), (b.cells.drop (i * sz)).take sz, ?_, ?_, by simp; omega, hrl, fun c d hcd => ?_⟩
    · unfold xindexAddr
      simp only [ht, hs]
      rw [if_pos ⟨by omega, by omega, h0⟩]
      simp
    · unfold xload
      simp only [hb, hd, hs, if_true]
      rw [if_pos ⟨h0, h2⟩]
    · obtain ⟨x, hx, hv⟩ := hrow c d hcd
      have hcl : c < sz := by rw [← hrl]; exact (List.getElem?_eq_some_iff.1 hcd).1
      exact ⟨x, by rw [List.getElem?_take_of_lt hcl, List.getElem?_drop]; exact hx, hv⟩

/-- What is told of such a slice: its blocks, by the number of the first of them. -/
structure ToldR (sz : Nat) (W : World) (v : Value) (E : Nat → List (Ent × Blk)) (vt : Nat → Value) (rows : List (List FD)) : Prop where
  ro : ∀ (A B : List (Ent × Blk)), ∀ x ∈ E A.length, x.1.b < W.heap.size ∧ x.1.es = x.2.es ∧ ∃ cs fr, W.heap[x.1.b]? = some (.cells cs x.2.ty fr) ∧ ∀ (j : Nat) (u : Value), x.2.cells[j]? = some u → ∃ y, cs[x.1.o + j]? = some y ∧ V1 ((A ++ (E A.length ++ B)).map (·.1)) u y
  rel : ∀ (A B : List (Ent × Blk)), V ((A ++ (E A.length ++ B)).map (·.1)) (vt A.length) v
  sl : ∀ (A B : List (Ent × Blk)), SlR sz ((A ++ (E A.length ++ B)).map fun x => some x.2) (vt A.length) rows
section
variable {P : Program} {W : World} {H : Type} {enc : TypeId × Value → H}
/-- How a field's type is told. -/
def fkB (P : Program) (t : TypeId) : FK → Bool
  | .int k => match P.underlying t with | some (.int k') => decide (k' = k) | _ => false
  | .str => match P.underlying t with | some .string => true | _ => false
  | .bool => match P.underlying t with | some .bool => true | _ => false
  | .isl k => match P.underlying t with | some (.slice e) => (match P.underlying e with | some (.int k') => decide (k' = k) && decide (P.cellsOf e = 1) | _ => false) | _ => false
/-- A cell as it lies in memory. -/
def CellIs (W : World) : FD → Value → Prop
  | .int k z, x => x = .int k z
  | .str s, x => x = .string s
  | .bool b, x => x = .bool b
  | .isl k zs, x => (x = .slice none 0 0 ∧ zs = []) ∨ ∃ a cap, x = .slice (some a) zs.length cap ∧ zs.length ≤ cap ∧ ∀ i, i < zs.length → W.cell? (a.add i) = some (.int k (zs.getD i 0))
theorem trod_bool' {base : Nat} {sp : Nat → Bool} {hd : Bool} {t : TypeId} {fuel : Nat} {cs : List Value} {x : DataW H × List MemPlace} (ht : P.underlying t = some .bool) (h : DataW.trod enc P W base sp hd fuel t cs = some x) : ∃ b, cs = [.bool b] := by
  cases fuel with
  | zero => simp [DataW.trod] at h
  | succ n =>
    unfold DataW.trod at h
    rw [ht] at h
    split at h <;> simp_all
theorem open_cell {base : Nat} {sp : Nat → Bool} {hd : Bool} {t : TypeId} {fk : FK} {fuel : Nat} {x : Value} {y : DataW H × List MemPlace} (hk : fkB P t fk = true) (h : DataW.trod enc P W base sp hd fuel t [x] = some y) : ∃ d : FD, d.ok fk ∧ CellIs W d x := by
  cases fk with
  | int k =>
    simp only [fkB] at hk
    split at hk
    · rename_i k' hu
      obtain ⟨n, h1, _, hw⟩ := DataW.trod_int hu h
      have hk : k' = k := by simpa using hk
      subst hk
      exact ⟨.int k' n, ⟨rfl, hw⟩, by simpa [CellIs] using h1⟩
    · cases hk
  | str =>
    simp only [fkB] at hk
    split at hk
    · rename_i hu
      obtain ⟨s, h1, _, hw⟩ := DataW.trod_string hu h
      exact ⟨.str s, hw, by simpa [CellIs] using h1⟩
    · cases hk
  | bool =>
    simp only [fkB] at hk
    split at hk
    · rename_i hu
      obtain ⟨b, h1⟩ := trod_bool' hu h
      exact ⟨.bool b, trivial, by simpa [CellIs] using h1⟩
    · cases hk
  | isl k =>
    simp only [fkB] at hk
    split at hk
    case h_2 => cases hk
    rename_i e hu
    split at hk
    case h_2 => cases hk
    rename_i k' he
    simp only [Bool.and_eq_true, decide_eq_true_eq] at hk
    obtain ⟨rfl, hc⟩ := hk
    rcases open_ints hu he hc h with ⟨h0, _⟩ | ⟨a, len, cap, zs, h0, _, hl, hm, hz, _, hcell, hwf⟩
    · exact ⟨.isl k' [], ⟨rfl, fun n hn => (by cases hn), Nat.zero_le _⟩, .inl ⟨by simpa using h0, rfl⟩⟩
    · have hlen : len ≤ zs.length := by rw [hz]; split <;> omega
      have hln : (zs.take len).length = len := by simp; omega
      refine ⟨.isl k' (zs.take len), ⟨rfl, fun n hn => hwf n (List.mem_of_mem_take hn), by rw [hln]; omega⟩, .inr ⟨a, cap, by rw [hln]; simpa using h0, by rw [hln]; exact hl, fun i hi => ?_⟩⟩
      rw [hln] at hi
      rw [hcell i (by omega), List.getD_eq_getElem?_getD, List.getD_eq_getElem?_getD, List.getElem?_take_of_lt hi]
/-- The told cell, and the block that it may show. -/
theorem tell_cell {d : FD} {x : Value} (h : CellIs W d x) {b0 : Nat} {cs0 : Array Value} {ty0 : TypeId} {fr0 : Nat × Nat} (hb0 : W.heap[b0]? = some (.cells cs0 ty0 fr0)) (n : Nat) :
    ∃ (u : Value) (sub : Ent × Blk), RoOk W sub ∧ (∀ m : List Ent, m[n]? = some sub.1 → V1 m u x) ∧ ∀ H : AH, hget H n = some sub.2 → d.val H u := by
  have dummy : RoOk W ((⟨b0, 0, 0, none⟩ : Ent), (⟨[], ty0, none⟩ : Blk)) := ⟨(Array.getElem?_eq_some_iff.1 hb0).1, rfl, cs0, fr0, hb0, fun j v hv => by simp at hv⟩
  cases d with
  | int k z => exact ⟨x, _, dummy, fun m _ => by cases h; exact .plain rfl, fun H _ => h⟩
  | str s => exact ⟨x, _, dummy, fun m _ => by cases h; exact .plain rfl, fun H _ => h⟩
  | bool b => exact ⟨x, _, dummy, fun m _ => by cases h; exact .plain rfl, fun H _ => h⟩
  | isl k zs =>
    rcases h with ⟨rfl, rfl⟩ | ⟨a, cap, rfl, hl, hc⟩
    · exact ⟨.slice none 0 0, _, dummy, fun m _ => .plain rfl, fun H _ => .inl ⟨none, rfl, rfl⟩⟩
    · rcases Nat.eq_zero_or_pos zs.length with h0 | h0
      · have : zs = [] := List.eq_nil_of_length_eq_zero h0
        subst this
        exact ⟨.slice (some ⟨0, 0, some 0⟩) 0 0, _, dummy, fun m _ => .sl0, fun H _ => .inl ⟨_, rfl, rfl⟩⟩
      · have hc0 := hc 0 h0
        obtain ⟨b, off, spot⟩ := a
        have hsp : spot = none := by
          cases spot with
          | none => rfl
          | some s =>
            simp only [World.cell?, Addr.add] at hc0
            split at hc0
            · split at hc0 <;> simp_all
            · cases hc0
        subst hsp
        have hcell : ∀ i, i < zs.length → W.cell? ⟨b, off + i, none⟩ = some (.int k (zs.getD i 0)) := fun i hi => by
          have := hc i hi
          rwa [add_none'] at this
        have hblk : ∃ cs ty fr, W.heap[b]? = some (.cells cs ty fr) := by
          have := hcell 0 h0
          simp only [World.cell?] at this
          split at this
          · rename_i c t f hh; exact ⟨c, t, f, hh⟩
          · cases this
        obtain ⟨cs, ty, fr, hh⟩ := hblk
        refine ⟨.slice (some ⟨n, 0, none⟩) zs.length zs.length, ((⟨b, off, 0, none⟩ : Ent), (⟨iv k zs, ty, none⟩ : Blk)), ⟨(Array.getElem?_eq_some_iff.1 hh).1, rfl, cs, fr, hh, fun j v hv => ?_⟩, fun m hm => ?_, fun G hG => ?_⟩
        · have hj : j < zs.length := by
            have := (List.getElem?_eq_some_iff.1 hv).1
            simpa using this
          rw [iv_getN k zs j hj] at hv
          cases hv
          have := hcell j hj
          simp only [World.cell?, hh] at this
          exact ⟨by simpa using this, rfl⟩
        · exact V1.sl (off := 0) (e := ⟨b, off, 0, none⟩) hm hl (fun _ s hs => by cases hs)
        · exact .inr ⟨n, 0, _, by simp, hG, fun i x hx => by rw [Nat.zero_add]; exact hx⟩
theorem choose_list {β γ : Type} (R : Nat → β → γ → Prop) : ∀ (l : List β) (o : Nat), (∀ i x, l[i]? = some x → ∃ y, R (o + i) x y) → ∃ l' : List γ, l'.length = l.length ∧ ∀ i x, l[i]? = some x → ∃ y, l'[i]? = some y ∧ R (o + i) x y
  | [], o, _ => ⟨[], rfl, fun i x h => by simp at h⟩
  | x :: l, o, h => by
    obtain ⟨y, hy⟩ := h 0 x rfl
    obtain ⟨l', h1, h2⟩ := choose_list R l (o + 1) (fun i x hx => by
      have := h (i + 1) x (by simpa using hx)
      rwa [show o + (i + 1) = o + 1 + i by omega] at this)
    refine ⟨y :: l', by simp [h1], fun i z hz => ?_⟩
    cases i with
    | zero => simp at hz; subst hz; exact ⟨y, rfl, hy⟩
    | succ i =>
      obtain ⟨w, hw1, hw2⟩ := h2 i z (by simpa using hz)
      exact ⟨w, by simpa using hw1, by rwa [show o + (i + 1) = o + 1 + i by omega]⟩
/-- The fields' kinds, one cell each, in their order. -/
def kindsB (P : Program) (fs : List Field) (ks : List FK) : Bool := fs.length == ks.length && (List.range fs.length).all fun i => match fs[i]?, ks[i]? with | some f, some k => f.offset == i && P.cellsOf f.type == 1 && fkB P f.type k | _, _ => false
theorem open_rows {r : Reach} {b0 base : Nat} {sp : Nat → Bool} {hd : Bool} {t e : TypeId} {fs : Array Field} {ks : List FK} {v : Value} {d : DataW H} {p : List MemPlace} (ht : P.underlying t = some (.slice e)) (he : P.underlying e = some (.struct fs)) (hc : P.cellsOf e = ks.length) (hm : 0 < ks.length) (hkb : kindsB P fs.toList ks = true)
    (hv : Value.okWide P W r b0 t v) (h : DataW.Trod enc P W base sp hd t v d p) : ∃ (E : Nat → List (Ent × Blk)) (vt : Nat → Value) (rows : List (List FD)), ToldR ks.length W v E vt rows ∧ (∀ row ∈ rows, row.length = ks.length ∧ ∀ (c : Nat) (dd : FD) (k : FK), row[c]? = some dd → ks[c]? = some k → FD.ok k dd) ∧ rows.length ≤ maxLen := by
  obtain ⟨a0, l0, c0, rfl⟩ := okWide_slice ht hv
  obtain ⟨fuel, hf⟩ := h
  rcases DataW.trod_slice ht hf with ⟨h0, _⟩ | ⟨a, len, cap, elems, rest, n, _, h0, _, hb, hl, hmx, hlen, hel, _, _⟩
  · have h1 : Value.slice a0 l0 c0 = Value.slice none 0 0 := by simpa [Value.cells] using h0
    rw [h1]
    exact ⟨fun _ => [], fun _ => .slice none 0 0, [], ⟨fun A B x h => (by cases h), fun A B => .one (.plain rfl), fun A B => .inl ⟨none, rfl, rfl⟩⟩, fun n hn => (by cases hn), Nat.zero_le _⟩
  have h1 : Value.slice a0 l0 c0 = Value.slice (some a) len cap := by simpa [Value.cells] using h0
  rw [h1] at hv ⊢
  obtain ⟨hsp, cs, ty, fr, hh⟩ := slice_at ht hv
  obtain ⟨b, off, spot⟩ := a
  simp only at hsp hh
  subst hsp
  generalize hmk : ks.length = m at *
  have hkb2 : fs.toList.length = m ∧ ∀ c, c < m → ∃ f k, fs[c]? = some f ∧ ks[c]? = some k ∧ f.offset = c ∧ P.cellsOf f.type = 1 ∧ fkB P f.type k = true := by
    unfold kindsB at hkb
    rw [Bool.and_eq_true] at hkb
    have hlf : fs.toList.length = m := by rw [← hmk]; simpa using hkb.1
    refine ⟨hlf, fun c hcm => ?_⟩
    have := List.all_eq_true.1 hkb.2 c (by rw [List.mem_range]; omega)
    split at this
    · rename_i f k hf hk
      simp only [Bool.and_eq_true, beq_iff_eq] at this
      exact ⟨f, k, by simpa using hf, hk, this.1.1, this.1.2, this.2⟩
    · cases this
  obtain ⟨hfl, hkf⟩ := hkb2
  have each : ∀ q, q < len * m → ∃ xd : Value × FD, W.cell? ⟨b, off + q, none⟩ = some xd.1 ∧ CellIs W xd.2 xd.1 ∧ ∀ k, ks[q % m]? = some k → FD.ok k xd.2 := by
    intro q hq
    have hi : q / m < len := Nat.div_lt_of_lt_mul (by rw [Nat.mul_comm]; exact hq)
    have hcm : q % m < m := Nat.mod_lt _ hm
    have e1 : q / m * m + q % m = q := by rw [Nat.mul_comm]; exact Nat.div_add_mod q m
    generalize q / m = i at *
    generalize q % m = c at *
    subst e1
    have h2 := hel i hi
    rw [hc, List.getElem?_eq_getElem (show i < elems.length by omega), Option.bind_eq_some_iff] at h2
    obtain ⟨cs', hcs, hy⟩ := h2
    obtain ⟨xs, q', _, _, hl2, hn2, hel2⟩ := DataW.trod_struct he hy
    obtain ⟨f, k, hf1, hk1, ho1, hc1, hk2⟩ := hkf c hcm
    have h3 := hel2 c f hf1
    have hxl : c < xs.length := by rw [hn2]; exact (Array.getElem?_eq_some_iff.1 hf1).1
    rw [ho1, hc1, List.getElem?_eq_getElem hxl] at h3
    rw [hc] at hl2
    have h4 : (cs'.drop c).take 1 = [cs'[c]'(by omega)] := by
      rw [List.drop_eq_getElem_cons (by omega), List.take_succ_cons, List.take_zero]
    rw [h4] at h3
    obtain ⟨dd, hd1, hd2⟩ := open_cell hk2 h3
    have hcell := (World.cells?_some hcs).2.2 c (by omega)
    rw [add_none', add_none', List.getElem?_eq_getElem (by omega)] at hcell
    exact ⟨(cs'[c]'(by omega), dd), by rw [show off + (i * m + c) = off + i * m + c by omega]; exact hcell, hd2, fun k' hk' => by rw [hk1] at hk'; cases hk'; exact hd1⟩
  obtain ⟨X, hX1, hX2⟩ := choose_list (fun q (_ : Nat) (xd : Value × FD) => W.cell? ⟨b, off + q, none⟩ = some xd.1 ∧ CellIs W xd.2 xd.1 ∧ ∀ k, ks[q % m]? = some k → FD.ok k xd.2) (List.range (len * m)) 0 (fun q x hq => by
    have := (List.getElem?_eq_some_iff.1 hq).1
    rw [List.length_range] at this
    rw [Nat.zero_add]
    exact each q this)
  rw [List.length_range] at hX1
  have hX : ∀ q, q < len * m → ∃ xd, X[q]? = some xd ∧ W.cell? ⟨b, off + q, none⟩ = some xd.1 ∧ CellIs W xd.2 xd.1 ∧ ∀ k, ks[q % m]? = some k → FD.ok k xd.2 := fun q hq => by
    obtain ⟨y, hy1, hy2⟩ := hX2 q q (List.getElem?_range hq)
    rw [Nat.zero_add] at hy2
    exact ⟨y, hy1, hy2⟩
  have hT : ∀ n, ∃ T : List (Value × (Ent × Blk)), T.length = X.length ∧ ∀ q xd, X[q]? = some xd → ∃ y, T[q]? = some y ∧ (RoOk W y.2 ∧ (∀ mm : List Ent, mm[n + 1 + q]? = some y.2.1 → V1 mm y.1 xd.1) ∧ ∀ G : AH, hget G (n + 1 + q) = some y.2.2 → xd.2.val G y.1) := by
    intro n
    obtain ⟨T, hT1, hT2⟩ := choose_list (fun q (xd : Value × FD) (y : Value × (Ent × Blk)) => RoOk W y.2 ∧ (∀ mm : List Ent, mm[n + 1 + q]? = some y.2.1 → V1 mm y.1 xd.1) ∧ ∀ G : AH, hget G (n + 1 + q) = some y.2.2 → xd.2.val G y.1) X 0 (fun q xd hq => by
      have hql := (List.getElem?_eq_some_iff.1 hq).1
      obtain ⟨xd', hx1, hx2, hx3, _⟩ := hX q (by omega)
      rw [hq] at hx1
      cases hx1
      rw [Nat.zero_add]
      obtain ⟨u, sub, hs1, hs2, hs3⟩ := tell_cell hx3 hh (n + 1 + q)
      exact ⟨(u, sub), hs1, hs2, hs3⟩)
    exact ⟨T, hT1, fun q xd hq => by have := hT2 q xd hq; rwa [Nat.zero_add] at this⟩
  obtain ⟨T, hT⟩ : ∃ T : Nat → List (Value × (Ent × Blk)), ∀ n, (T n).length = X.length ∧ ∀ q xd, X[q]? = some xd → ∃ y, (T n)[q]? = some y ∧ (RoOk W y.2 ∧ (∀ mm : List Ent, mm[n + 1 + q]? = some y.2.1 → V1 mm y.1 xd.1) ∧ ∀ G : AH, hget G (n + 1 + q) = some y.2.2 → xd.2.val G y.1) :=
    ⟨fun n => (hT n).choose, fun n => (hT n).choose_spec⟩
  have hat : ∀ (A B : List (Ent × Blk)) (q : Nat) (y : Value × (Ent × Blk)), (T A.length)[q]? = some y → (A ++ ((((⟨b, off, 0, none⟩ : Ent), (⟨(T A.length).map (·.1), ty, none⟩ : Blk)) :: (T A.length).map (·.2)) ++ B))[A.length + 1 + q]? = some y.2 := by
    intro A B q y hy
    rw [List.getElem?_append_right (by omega), show A.length + 1 + q - A.length = q + 1 by omega, List.cons_append, List.getElem?_cons_succ, List.getElem?_append_left (by rw [List.length_map]; exact (List.getElem?_eq_some_iff.1 hy).1), List.getElem?_map, hy]
    rfl
  refine ⟨fun n => ((⟨b, off, 0, none⟩ : Ent), (⟨(T n).map (·.1), ty, none⟩ : Blk)) :: (T n).map (·.2), fun n => .slice (some ⟨n, 0, none⟩) len len, (List.range len).map fun i => ((X.drop (i * m)).take m).map (·.2), ⟨fun A B x hx => ?_, fun A B => ?_, fun A B => .inr ⟨A.length, ⟨(T A.length).map (·.1), ty, none⟩, by simp, ?_, by simp [(hT A.length).1, hX1], fun i row hr => ?_⟩⟩, fun row hr => ?_, by simp; omega⟩
  · rcases List.mem_cons.1 hx with rfl | hx
    · refine ⟨(Array.getElem?_eq_some_iff.1 hh).1, rfl, cs, fr, hh, fun j u hu => ?_⟩
      rw [List.getElem?_map] at hu
      cases hty : (T A.length)[j]? with
      | none => rw [hty] at hu; cases hu
      | some y =>
        rw [hty] at hu
        cases hu
        have hjl : j < len * m := by rw [← hX1, ← (hT A.length).1]; exact (List.getElem?_eq_some_iff.1 hty).1
        obtain ⟨xd, hx1, hx2, _, _⟩ := hX j hjl
        obtain ⟨y', hy1, _, hy3, _⟩ := (hT A.length).2 j xd hx1
        rw [hty] at hy1
        cases hy1
        simp only [World.cell?, hh] at hx2
        refine ⟨xd.1, by simpa using hx2, hy3 _ ?_⟩
        rw [List.getElem?_map, hat A B j y hty]
        rfl
    · obtain ⟨y, hy, rfl⟩ := List.mem_map.1 hx
      obtain ⟨q, hq, rfl⟩ := List.mem_iff_getElem.1 hy
      obtain ⟨xd, hx1, _⟩ := hX q (by rw [← hX1, ← (hT A.length).1]; exact hq)
      obtain ⟨y', hy1, hy2, _⟩ := (hT A.length).2 q xd hx1
      rw [List.getElem?_eq_getElem hq] at hy1
      cases hy1
      exact hy2.ro _
  · have := V1.sl (m := (A ++ ((((⟨b, off, 0, none⟩ : Ent), (⟨(T A.length).map (·.1), ty, none⟩ : Blk)) :: (T A.length).map (·.2)) ++ B)).map (·.1)) (i := A.length) (off := 0) (len := len) (c := cap) (e := ⟨b, off, 0, none⟩) (by simp) hl (fun _ s hs => by cases hs)
    exact .one this
  · unfold hget; simp
  · rw [List.getElem?_map] at hr
    have hi : i < len := by
      rcases Nat.lt_or_ge i len with h | h
      · exact h
      · rw [List.getElem?_eq_none (by simpa using h)] at hr; cases hr
    rw [List.getElem?_range hi] at hr
    simp only [Option.map_some, Option.some.injEq] at hr
    subst hr
    have h7 : (i + 1) * m ≤ len * m := Nat.mul_le_mul_right _ hi
    rw [Nat.add_mul] at h7
    refine ⟨by simp; omega, fun c d hd => ?_⟩
    have hcm : c < m := by
      have := (List.getElem?_eq_some_iff.1 hd).1
      simp at this
      omega
    rw [List.getElem?_map, List.getElem?_take_of_lt hcm, List.getElem?_drop] at hd
    obtain ⟨xd, hx1, _⟩ := hX (i * m + c) (by omega)
    rw [hx1] at hd
    cases hd
    obtain ⟨y, hy1, _, _, hy4⟩ := (hT A.length).2 _ xd hx1
    refine ⟨y.1, by rw [List.getElem?_map, hy1]; rfl, hy4 _ ?_⟩
    unfold hget
    rw [List.getElem?_map, hat A B _ y hy1]
    rfl
  · obtain ⟨i, hi, rfl⟩ := List.mem_map.1 hr
    have hi : i < len := by simpa using hi
    have h7 : (i + 1) * m ≤ len * m := Nat.mul_le_mul_right _ hi
    rw [Nat.add_mul] at h7
    refine ⟨by simp; omega, fun c dd k hd hk => ?_⟩
    have hcm : c < m := by
      have := (List.getElem?_eq_some_iff.1 hd).1
      simp at this
      omega
    rw [List.getElem?_map, List.getElem?_take_of_lt hcm, List.getElem?_drop] at hd
    obtain ⟨xd, hx1, _, _, hx4⟩ := hX (i * m + c) (by omega)
    rw [hx1] at hd
    cases hd
    refine hx4 k ?_
    rw [Nat.mul_comm, Nat.mul_add_mod, Nat.mod_eq_of_lt hcm]
    exact hk
end
end
end Go.Proofs.Ytpdijcaikjobiaa
