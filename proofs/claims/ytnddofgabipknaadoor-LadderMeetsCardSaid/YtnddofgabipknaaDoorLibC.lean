/-
  Package variables, and arguments behind pointers and slices, as blocks that are only read; a function of them that answers a plain value. Over any program.
  Tests that hold by arithmetic, as conditional equations: the walk's simp shows their conditions by omega. And the blocks' equations, conditional likewise.
  Rows that are filled from their front. Over any program.
  Slices that come in: their blocks, only read. Over any program.
  A slice of arrays of integers that comes in: its block, only read. Over any program.
-/
import Derived.Test.YtnddofgabipknaaDoorLibB
import Derived.Lib.LaidTab
import Derived.SliceStrings
import Derived.ChangeSlices
import Derived.Deep.Slices
namespace Go.Proofs.YtnddofgabipknaaDoor
section
open Go Go.RowKit
set_option linter.unusedVariables false
set_option linter.unusedSimpArgs false

/-- The package variables that are known, by their numbers: the blocks 0, 1, .. . -/
def gam (gs : List Nat) : Nat → Option Nat := fun g => gs.findIdx? (· == g)
theorem eval_func (γ : Nat → Option Nat) (α : Fm) (f : FuncId) : Fm.eval γ α (.func f) = .func (.func f) #[] #[] := rfl
theorem eval_global (γ : Nat → Option Nat) (α : Fm) (g : Nat) : Fm.eval γ α (.global g) = match γ g with | some i => .pointer (some ⟨i, 0, none⟩) | none => undef := rfl

section
variable {P : Program} {nro n base : Nat} {γ : Nat → Option Nat} {m : List Ent} {H : AH} {α : Fm} {a : Act} {w : World} {Q : Value → AH → Prop}

/-- A function that answers a plain value and turns nothing that was there, whatever of it is own: called among others. -/
theorem ac_of_rc {f : FuncId} {args : Array Value} {v : Value} (h : AC P H.length γ f args H (fun v' _ => v' = v)) (hv : plainV v = true) (hq : Q v H) : AC P nro γ f args H Q := by
  intro m base w args' hR hsz hva
  refine (h m w.heap.size w args' hR.freeze hsz hva).mono ?_
  rintro e w' ⟨m', v1, v', H', rfl, _, hv', _, hb, rfl⟩
  exact ⟨m, v1, v1, H, by rw [hv'.eq hv], List.prefix_rfl, plainV_mk hv, hR.below hb, hb.mono hR.base_le, hq⟩
end

section
variable {P : Program} {W : World}
/-- Blocks that were there, and are only read. -/
theorem rel_ro (L : List (Ent × Blk)) (γ : Nat → Option Nat)
    (h : ∀ x ∈ L, x.1.b < W.heap.size ∧ x.2 = ⟨x.2.cells, x.2.ty, x.1.es⟩ ∧ ∃ cs fr, W.heap[x.1.b]? = some (.cells cs x.2.ty fr) ∧ ∀ (j : Nat) (v : Value), x.2.cells[j]? = some v → ∃ y, cs[x.1.o + j]? = some y ∧ V1 (L.map (·.1)) v y)
    (hg : ∀ (g i : Nat), γ g = some i → ∃ e : Ent, (L.map (·.1))[i]? = some e ∧ e.b = g ∧ e.o = 0) :
    Rel L.length W.heap.size γ (L.map (·.1)) (L.map fun x => some x.2) W := by
  have get : ∀ (i : Nat) (e : Ent), (L.map (·.1))[i]? = some e → ∃ x, L[i]? = some x ∧ x ∈ L ∧ e = x.1 := by
    intro i e he
    rw [List.getElem?_map] at he
    cases hx : L[i]? with
    | none => rw [hx] at he; cases he
    | some x => rw [hx] at he; cases he; exact ⟨x, rfl, List.mem_of_getElem? hx, rfl⟩
  refine ⟨by simp, by simp, Nat.le_refl _, fun i e he => ?_, fun i e _ he => ?_, fun i e hi he => ?_, fun i k e l hk hl he => ?_, fun i k e hk _ he => ?_, fun i j ki kj ei ej hi hj _ hki => ?_, hg⟩
  · obtain ⟨x, _, hx, rfl⟩ := get i e he; exact (h x hx).1
  · obtain ⟨x, _, hx, rfl⟩ := get i e he; exact (h x hx).1
  · obtain ⟨x, hx, _, _⟩ := get i e he
    have := (List.getElem?_eq_some_iff.1 hx).1
    omega
  · obtain ⟨x, hx, hm, rfl⟩ := get i e he
    rw [List.getElem?_map, hx] at hk
    cases hk
    have h2 := (h x hm).2.1
    rw [h2] at hl
    cases hl
  · obtain ⟨x, hx, hm, rfl⟩ := get i e he
    rw [List.getElem?_map, hx] at hk
    cases hk
    obtain ⟨_, h2, cs, fr, h3, h4⟩ := h x hm
    have h2 : x.1.es = x.2.es := (congrArg Blk.es h2).symm
    have hi := (List.getElem?_eq_some_iff.1 hx).1
    exact ⟨cs, fr, h3, fun hn => by omega, h2, fun hn => by omega, h4⟩
  · have := (List.getElem?_eq_some_iff.1 hki).1
    simp at this
    omega
/-- A table of integers, as its block. -/
theorem tab_block {name : String} {k : IntKind} {zs : List Int} {g : Nat} (h : Lib.TabIs P W name k zs) (hg : P.globalNamed name = some g) : ∃ t fr, W.heap[g]? = some (.cells (iv k zs).toArray t fr) := by
  unfold Lib.TabIs World.var? at h
  rw [hg] at h
  simp only [Option.bind_some] at h
  split at h
  · rename_i cs t fr hb
    cases h
    exact ⟨t, fr, hb⟩
  · cases h
theorem iv_v1 {m : List Ent} {k : IntKind} {zs : List Int} (j : Nat) (v : Value) (h : (iv k zs)[j]? = some v) : ∃ y, ((iv k zs).toArray)[0 + j]? = some y ∧ V1 m v y := by
  refine ⟨v, by simpa using h, ?_⟩
  unfold iv at h
  rw [List.getElem?_map] at h
  cases hz : zs[j]? with
  | none => rw [hz] at h; cases h
  | some z => rw [hz] at h; cases h; exact .plain rfl
/-- A law's walk, at the world at hand. -/
theorem calls_of_ac {f : FuncId} {args args' : Array Value} {v : Value} {m : List Ent} {H : AH} {γ : Nat → Option Nat} (hR : Rel H.length W.heap.size γ m H W) (hv : plainV v = true) (hs : args'.size = args.size)
    (ha : ∀ (i : Nat) (x : Value), args[i]? = some x → ∃ y, args'[i]? = some y ∧ V m x y) (h : AC P H.length γ f args H (fun v' _ => v' = v)) (hbd : bodied P f = true := by kernel_rfl) (hcl : callable P f = true := by kernel_rfl) : Calls P f args' W fun e W' => e = .returned v ∧ Below W.heap.size W W' := by
  rcases h m W.heap.size W args' hR hs ha with ⟨_, h'⟩ | ⟨v0, hrun, _⟩
  case inr =>
    rw [callable_run hcl hbd] at hrun
    cases hrun
  refine h'.mono ?_
  rintro e w' ⟨m', v1, v', H', rfl, _, hv', _, hb, rfl⟩
  exact ⟨by rw [hv'.eq hv], hb⟩
end
end

section
open Go Go.RowKit

/-- Lengths, in one name. -/
theorem lnS : (∀ {α : Type} (l : List α) (i : Nat) (x : α), (l.set i x).length = l.length) ∧ (∀ {α : Type} (a b : List α), (a ++ b).length = a.length + b.length) ∧ (∀ {α : Type} (x : α) (l : List α), (x :: l).length = l.length + 1) ∧ (∀ {α : Type}, ([] : List α).length = 0) ∧ (∀ (k : IntKind) (l : List Int), (iv k l).length = l.length) ∧ ∀ n : Nat, (zl n).length = n :=
  ⟨fun _ _ _ => List.length_set, fun _ _ => List.length_append, fun _ _ => rfl, rfl, iv_length, zl_length⟩

theorem ltT {a b : Int} (h : a < b) : (a < b) = True := eq_true h
theorem ltF {a b : Int} (h : b ≤ a) : (a < b) = False := eq_false (by omega)
theorem leT {a b : Int} (h : a ≤ b) : (a ≤ b) = True := eq_true h
theorem leF {a b : Int} (h : b < a) : (a ≤ b) = False := eq_false (by omega)
theorem eqT {a b : Int} (h : a = b) : (a = b) = True := eq_true h
theorem eqF {a b : Int} (h : a ≠ b) : (a = b) = False := eq_false h
theorem ltTn {a b : Nat} (h : a < b) : (a < b) = True := eq_true h
theorem ltFn {a b : Nat} (h : b ≤ a) : (a < b) = False := eq_false (by omega)
theorem leTn {a b : Nat} (h : a ≤ b) : (a ≤ b) = True := eq_true h
theorem leFn {a b : Nat} (h : b < a) : (a ≤ b) = False := eq_false (by omega)
theorem eqTn {a b : Nat} (h : a = b) : (a = b) = True := eq_true h
theorem eqFn {a b : Nat} (h : a ≠ b) : (a = b) = False := eq_false h
theorem beqT {a b : Int} (h : a = b) : (a == b) = true := by simpa using h
theorem beqF {a b : Int} (h : a ≠ b) : (a == b) = false := by simpa using h
theorem bneT {a b : Int} (h : a ≠ b) : (a != b) = true := by simpa using h
theorem bneF {a b : Int} (h : a = b) : (a != b) = false := by simpa using h
theorem wi64 {x : Int} (h : -9223372036854775808 ≤ x ∧ x ≤ 9223372036854775807) : IntKind.i64.wrap x = x := wrap64_in h
theorem wu64 {x : Int} (h : 0 ≤ x ∧ x ≤ 18446744073709551615) : IntKind.u64.wrap x = x := by simp only [IntKind.wrap, IntKind.bits, IntKind.signed]; simp; omega
theorem wu32 {x : Int} (h : 0 ≤ x ∧ x ≤ 4294967295) : IntKind.u32.wrap x = x := by simp only [IntKind.wrap, IntKind.bits, IntKind.signed]; simp; omega
theorem wu16 {x : Int} (h : 0 ≤ x ∧ x ≤ 65535) : IntKind.u16.wrap x = x := by simp only [IntKind.wrap, IntKind.bits, IntKind.signed]; simp; omega
theorem wu8 {x : Int} (h : 0 ≤ x ∧ x ≤ 255) : IntKind.u8.wrap x = x := by simp only [IntKind.wrap, IntKind.bits, IntKind.signed]; simp; omega
theorem tmodP {a b : Int} (h : 0 ≤ a) : a.tmod b = a % b := Int.tmod_eq_emod_of_nonneg h
theorem tdivP {a b : Int} (h : 0 ≤ a) : a.tdiv b = a / b := Int.tdiv_eq_ediv_of_nonneg h
theorem fdivP {a b : Int} (h : 0 ≤ b) : a.fdiv b = a / b := Int.fdiv_eq_ediv_of_nonneg a h
theorem hgetL {H L : AH} {i : Nat} (h : i < H.length) : hget (H ++ L) i = hget H i := hget_left h
theorem hgetNe {H : AH} {i j : Nat} {x : Option Blk} (h : i ≠ j) : hget (H.set i x) j = hget H j := hget_set_ne h
theorem hgetEq {H : AH} {i : Nat} {x : Option Blk} (h : i < H.length) : hget (H.set i x) i = x := hget_set_eq h
theorem setL {H L : AH} {i : Nat} {x : Option Blk} (h : i < H.length) : (H ++ L).set i x = H.set i x ++ L := List.set_append_left _ _ h
theorem hset_self {H : AH} {b : Nat} {k : Blk} (h : hget H b = some k) : H.set b (some k) = H := by
  have h2 := hget_some h
  apply List.ext_getElem?
  intro i
  rw [List.getElem?_set]
  split
  · rename_i e; subst e
    split
    · exact h2.symm
    · rename_i hlt; rw [List.getElem?_eq_none (by omega)] at h2; cases h2
  · rfl
theorem iv_getN (k : IntKind) (l : List Int) (i : Nat) (h : i < l.length) : (iv k l)[i]? = some (.int k (l.getD i 0)) := iv_get k l i h
theorem nums_def (s : ByteArray) : (s.data.toList.map fun b => (b.toNat : Int)) = nums s := rfl
theorem nums_len (s : ByteArray) : (nums s).length = s.size := by unfold nums; simp
theorem nums_bd (s : ByteArray) : ∀ x ∈ nums s, 0 ≤ x ∧ x ≤ 255 := by
  intro x hx
  unfold nums at hx
  obtain ⟨b, _, rfl⟩ := List.mem_map.1 hx
  have := b.toNat_lt
  omega
theorem agB : isAggD .bool = false := rfl
theorem agI (k : IntKind) : isAggD (.int k) = false := rfl
theorem agS : isAggD .string = false := rfl
theorem agP (t : TypeId) : isAggD (.pointer t) = false := rfl
theorem agL (t : TypeId) : isAggD (.slice t) = false := rfl
theorem agA (n : Nat) (t : TypeId) : isAggD (.array n t) = true := rfl
theorem agM (k t : TypeId) : isAggD (.map k t) = false := rfl
theorem okM (k t : TypeId) : okD (.map k t) = true := rfl
theorem okB : okD .bool = true := rfl
theorem okI (k : IntKind) : okD (.int k) = true := rfl
theorem okS : okD .string = true := rfl
theorem okP (t : TypeId) : okD (.pointer t) = true := rfl
theorem okSl (t : TypeId) : okD (.slice t) = true := rfl
theorem okA (n : Nat) (t : TypeId) : okD (.array n t) = true := rfl
/-- Bytes. -/
def By (l : List Int) : Prop := ∀ x ∈ l, 0 ≤ x ∧ x ≤ 255
theorem nums_of (l : List Int) (h : By l) : nums (strOfNums l) = l := by
  unfold nums
  rw [strOfNums_data, List.map_map]
  refine (List.map_congr_left fun x hx => ?_).trans (List.map_id' l)
  have := h x hx
  simp only [Function.comp_apply]
  rw [UInt8.toNat_ofNat']
  omega
theorem of_nums' (s : ByteArray) : strOfNums (nums s) = s := by
  unfold nums strOfNums
  rw [List.map_map]
  have : (fun n : Int => UInt8.ofNat n.toNat) ∘ (fun b : UInt8 => (b.toNat : Int)) = id := by
    funext b
    simp
  rw [this, List.map_id]
theorem by_u8 (x : Int) : 0 ≤ IntKind.u8.wrap x ∧ IntKind.u8.wrap x ≤ 255 := by simp only [IntKind.wrap, IntKind.bits, IntKind.signed]; simp; omega
theorem By.app {l r : List Int} (h : By l) (k : By r) : By (l ++ r) := fun x hx => by
  rcases List.mem_append.1 hx with g | g
  · exact h x g
  · exact k x g
theorem By.cons {x : Int} {l : List Int} (h : 0 ≤ x ∧ x ≤ 255) (k : By l) : By (x :: l) := fun y hy => by
  rcases List.mem_cons.1 hy with rfl | g
  · exact h
  · exact k y g
theorem By.nil : By [] := fun x hx => by cases hx
theorem By.get {l : List Int} (h : By l) (p : Nat) : 0 ≤ l.getD p 0 ∧ l.getD p 0 ≤ 255 := by
  rw [List.getD_eq_getElem?_getD]
  cases hq : l[p]? with
  | none => simp
  | some x => simpa using h x (List.mem_of_getElem? hq)
end

section
open Go Go.RowKit
/-- A row that is filled from its front. -/
theorem set_next (A : List Int) (n i : Nat) (hn : A.length = n) (hi : i < n) : (A.take i ++ zl (n - i)).set i (A.getD i 0) = A.take (i + 1) ++ zl (n - (i + 1)) := by
  have hl : (A.take i).length = i := by rw [List.length_take]; omega
  have hz : zl (n - i) = 0 :: zl (n - (i + 1)) := by
    unfold zl
    rw [show n - i = (n - (i + 1)) + 1 by omega, List.replicate_succ]
  rw [List.set_append_right _ _ (by omega), hl, Nat.sub_self, hz, List.set_cons_zero, List.take_add_one, List.getElem?_eq_getElem (by omega), List.getD_eq_getElem?_getD, List.getElem?_eq_getElem (by omega)]
  simp only [Option.toList_some, Option.getD_some, List.append_assoc, List.cons_append, List.nil_append]
theorem fill_len (A : List Int) (n i : Nat) (hn : A.length = n) (hi : i ≤ n) : (A.take i ++ zl (n - i)).length = n := by
  rw [List.length_append, List.length_take, zl_length]; omega
end

section
open Go Go.RowKit Go.ChangeShapes Go.WideShapes Go.ChangeAt
set_option linter.unusedVariables false

/-- A slice value that shows these cells, wherever they lie. -/
def SlV (H : AH) (v : Value) (cells : List Value) : Prop :=
  (∃ a, v = .slice a 0 0 ∧ cells = []) ∨ ∃ j off k, v = .slice (some ⟨j, off, none⟩) cells.length cells.length ∧ hget H j = some k ∧ ∀ i x, cells[i]? = some x → k.cells[off + i]? = some x
theorem SlV.app {H : AH} {v : Value} {ps : List Value} (h : SlV H v ps) (L : AH) : SlV (H ++ L) v ps := by
  rcases h with h | ⟨j, off, k, h1, h2, h3⟩
  · exact .inl h
  · exact .inr ⟨j, off, k, h1, hget_left' h2, h3⟩
theorem SlV.len {P : Program} {H : AH} {v : Value} {ps : List Value} {t e : TypeId} (h : SlV H v ps) (ht : und P t = .slice e) : xlen P t v = some (.int .i64 ps.length) := by
  rcases h with ⟨a, rfl, rfl⟩ | ⟨j, off, k, rfl, _⟩
  · simp [xlen, ht]
  · simp [xlen, ht]
section
variable {P : Program} {W : World} {H : Type} {enc : TypeId × Value → H}
/-- A block that is only read, of plain cells. -/
def RoOk (W : World) (x : Ent × Blk) : Prop :=
  x.1.b < W.heap.size ∧ x.2 = ⟨x.2.cells, x.2.ty, x.1.es⟩ ∧ ∃ cs fr, W.heap[x.1.b]? = some (.cells cs x.2.ty fr) ∧ ∀ (j : Nat) (v : Value), x.2.cells[j]? = some v → cs[x.1.o + j]? = some v ∧ plain1 v = true
theorem RoOk.ro {x : Ent × Blk} (h : RoOk W x) (m : List Ent) : x.1.b < W.heap.size ∧ x.2 = ⟨x.2.cells, x.2.ty, x.1.es⟩ ∧ ∃ cs fr, W.heap[x.1.b]? = some (.cells cs x.2.ty fr) ∧ ∀ (j : Nat) (v : Value), x.2.cells[j]? = some v → ∃ y, cs[x.1.o + j]? = some y ∧ V1 m v y :=
  let ⟨h1, h2, cs, fr, h3, h4⟩ := h
  ⟨h1, h2, cs, fr, h3, fun j v hv => ⟨v, (h4 j v hv).1, .plain (h4 j v hv).2⟩⟩
/-- What is told of a slice that came in. -/
structure Told (W : World) (v : Value) (E : List (Ent × Blk)) (vt : Nat → Value) (cells : List Value) : Prop where
  ro : ∀ x ∈ E, RoOk W x
  le : E.length ≤ 1
  rel : ∀ (A B : List (Ent × Blk)), V ((A ++ (E ++ B)).map (·.1)) (vt A.length) v
  sl : ∀ (A B : List (Ent × Blk)), SlV ((A ++ (E ++ B)).map fun x => some x.2) (vt A.length) cells
theorem told_nil : Told W (.slice none 0 0) [] (fun _ => .slice none 0 0) [] :=
  ⟨fun x h => (by cases h), (by simp), fun A B => .one (.plain rfl), fun A B => .inl ⟨none, rfl, rfl⟩⟩
theorem told_cells {b off len cap : Nat} {cs : Array Value} {ty : TypeId} {fr : Nat × Nat} {xs : List Value} (hh : W.heap[b]? = some (.cells cs ty fr)) (hl : len ≤ cap) (hx : xs.length = len)
    (hc : ∀ i x, xs[i]? = some x → W.cell? ⟨b, off + i, none⟩ = some x) (hp : ∀ x ∈ xs, plain1 x = true) :
    Told W (.slice (some ⟨b, off, none⟩) len cap) [(⟨b, off, 0, none⟩, ⟨xs, ty, none⟩)] (fun n => .slice (some ⟨n, 0, none⟩) len len) xs := by
  refine ⟨fun x hxm => ?_, by simp, fun A B => ?_, fun A B => .inr ⟨A.length, 0, ⟨xs, ty, none⟩, by simp [hx], ?_, fun i x hi => by rw [Nat.zero_add]; exact hi⟩⟩
  · rw [List.mem_singleton] at hxm
    subst hxm
    refine ⟨(Array.getElem?_eq_some_iff.1 hh).1, rfl, cs, fr, hh, fun j v hv => ⟨?_, hp v (List.mem_of_getElem? hv)⟩⟩
    have := hc j v hv
    simp only [World.cell?, hh] at this
    simpa using this
  · have := V1.sl (m := (A ++ ([((⟨b, off, 0, none⟩ : Ent), (⟨xs, ty, none⟩ : Blk))] ++ B)).map (·.1)) (i := A.length) (off := 0) (len := len) (c := cap) (e := ⟨b, off, 0, none⟩) (by simp) hl (fun _ s hs => by cases hs)
    exact .one this
  · unfold hget; simp
theorem slice_at {r : Reach} {b0 : Nat} {t e : TypeId} {a : Addr} {len cap : Nat} (ht : P.underlying t = some (.slice e)) (hv : Value.okWide P W r b0 t (.slice (some a) len cap)) :
    a.spot = none ∧ ∃ cs ty fr, W.heap[a.block]? = some (.cells cs ty fr) := by
  unfold Value.okWide at hv
  rw [ht] at hv
  simp only [Cell.okWide, ht, Cell.ok] at hv
  obtain ⟨_, hsp, row, cells, hsh, _⟩ := hv.2.2
  refine ⟨hsp, ?_⟩
  unfold World.shape? at hsh
  split at hsh
  · rename_i c el fr hh; exact ⟨_, _, _, hh⟩
  · cases hsh
theorem add_none' (b off i : Nat) : (⟨b, off, none⟩ : Addr).add i = ⟨b, off + i, none⟩ := by
  unfold Addr.add
  split
  · rename_i h; subst h; rfl
  · rfl
theorem open_islice {r : Reach} {b0 base : Nat} {sp : Nat → Bool} {hd : Bool} {t e : TypeId} {k : IntKind} {v : Value} {d : DataW H} {p : List MemPlace} (ht : P.underlying t = some (.slice e)) (he : P.underlying e = some (.int k)) (hc : P.cellsOf e = 1)
    (hv : Value.okWide P W r b0 t v) (h : DataW.Trod enc P W base sp hd t v d p) : ∃ (E : List (Ent × Blk)) (vt : Nat → Value) (zs : List Int), Told W v E vt (iv k zs) ∧ (∀ n ∈ zs, (Lit.int k n).wf = true) ∧ zs.length ≤ maxLen := by
  obtain ⟨a0, l0, c0, rfl⟩ := okWide_slice ht hv
  obtain ⟨fuel, hf⟩ := h
  rcases open_ints ht he hc hf with ⟨h0, _⟩ | ⟨a, len, cap, zs, h0, _, hl, hm, hz, _, hcell, hwf⟩
  · have h1 : Value.slice a0 l0 c0 = Value.slice none 0 0 := by simpa [Value.cells] using h0
    rw [h1]
    exact ⟨[], _, [], told_nil, fun n hn => (by cases hn), Nat.zero_le _⟩
  · have h1 : Value.slice a0 l0 c0 = Value.slice (some a) len cap := by simpa [Value.cells] using h0
    rw [h1] at hv ⊢
    obtain ⟨hsp, cs, ty, fr, hh⟩ := slice_at ht hv
    obtain ⟨b, off, spot⟩ := a
    simp only at hsp hh
    subst hsp
    have hlen : len ≤ zs.length := by rw [hz]; split <;> omega
    refine ⟨_, _, zs.take len, told_cells hh hl (by simp; omega) (fun i x hi => ?_) (fun x hx => ?_), fun n hn => hwf n (List.mem_of_mem_take hn), by rw [List.length_take]; omega⟩
    · have hi' : i < len := by
        rcases Nat.lt_or_ge i len with h | h
        · exact h
        · rw [List.getElem?_eq_none (by simp; omega)] at hi; cases hi
      have hci := hcell i (by omega)
      rw [add_none'] at hci
      rw [hci, ← hi, iv_getN k _ i (by rw [List.length_take]; omega)]
      congr 2
      rw [List.getD_eq_getElem?_getD, List.getD_eq_getElem?_getD, List.getElem?_take_of_lt hi']
    · unfold iv at hx
      obtain ⟨z, _, rfl⟩ := List.mem_map.1 hx
      rfl
theorem open_sslice {r : Reach} {b0 base : Nat} {sp : Nat → Bool} {hd : Bool} {t e : TypeId} {v : Value} {d : DataW H} {p : List MemPlace} (ht : P.underlying t = some (.slice e)) (he : P.underlying e = some .string) (hc : P.cellsOf e = 1)
    (hv : Value.okWide P W r b0 t v) (h : DataW.Trod enc P W base sp hd t v d p) : ∃ (E : List (Ent × Blk)) (vt : Nat → Value) (ss : List ByteArray), Told W v E vt (ss.map .string) ∧ (∀ s ∈ ss, s.size ≤ maxLen) ∧ ss.length ≤ maxLen := by
  obtain ⟨a0, l0, c0, rfl⟩ := okWide_slice ht hv
  obtain ⟨fuel, hf⟩ := h
  rcases open_strings ht he hc hf with ⟨h0, _⟩ | ⟨a, len, cap, zs, h0, _, hl, hm, hz, _, hcell, hwf⟩
  · have h1 : Value.slice a0 l0 c0 = Value.slice none 0 0 := by simpa [Value.cells] using h0
    rw [h1]
    exact ⟨[], _, [], told_nil, fun n hn => (by cases hn), Nat.zero_le _⟩
  · have h1 : Value.slice a0 l0 c0 = Value.slice (some a) len cap := by simpa [Value.cells] using h0
    rw [h1] at hv ⊢
    obtain ⟨hsp, cs, ty, fr, hh⟩ := slice_at ht hv
    obtain ⟨b, off, spot⟩ := a
    simp only at hsp hh
    subst hsp
    have hlen : len ≤ zs.length := by rw [hz]; split <;> omega
    refine ⟨_, _, zs.take len, told_cells hh hl (by simp; omega) (fun i x hi => ?_) (fun x hx => ?_), fun n hn => hwf n (List.mem_of_mem_take hn), by rw [List.length_take]; omega⟩
    · have hi' : i < len := by
        rcases Nat.lt_or_ge i len with h | h
        · exact h
        · rw [List.getElem?_eq_none (by simp; omega)] at hi; cases hi
      have hci := hcell i (by omega)
      rw [add_none'] at hci
      rw [hci, ← hi, List.getElem?_map, List.getElem?_take_of_lt hi', List.getD_eq_getElem?_getD, List.getElem?_eq_getElem (by omega)]
      rfl
    · obtain ⟨z, _, rfl⟩ := List.mem_map.1 hx
      rfl
end
end

section
open Go Go.RowKit Go.ChangeShapes Go.WideShapes Go.ChangeAt
set_option linter.unusedVariables false

/-- A slice value that shows these rows, each of sz integers. -/
def SlK (sz : Nat) (kd : IntKind) (H : AH) (v : Value) (ks : List (List Int)) : Prop :=
  (∃ a, v = .slice a 0 0 ∧ ks = []) ∨ ∃ j k, v = .slice (some ⟨j, 0, none⟩) ks.length ks.length ∧ hget H j = some k ∧ ks.length * sz ≤ k.cells.length ∧ ∀ i key, ks[i]? = some key → (k.cells.drop (i * sz)).take sz = iv kd key
theorem SlK.low {sz : Nat} {kd : IntKind} {H H' : AH} {v : Value} {ks : List (List Int)} (h : SlK sz kd H v ks) (hl : ∀ j, j < H.length → hget H' j = hget H j) : SlK sz kd H' v ks := by
  rcases h with h | ⟨j, k, h1, h2, h3⟩
  · exact .inl h
  · exact .inr ⟨j, k, h1, by rw [hl j (hget_lt h2)]; exact h2, h3⟩
theorem SlK.len {P : Program} {sz : Nat} {kd : IntKind} {H : AH} {v : Value} {ks : List (List Int)} {t e : TypeId} (h : SlK sz kd H v ks) (ht : und P t = .slice e) : xlen P t v = some (.int .i64 ks.length) := by
  rcases h with ⟨a, rfl, rfl⟩ | ⟨j, k, rfl, _⟩
  · simp [xlen, ht]
  · simp [xlen, ht]
theorem SlK.at {P : Program} {sz : Nat} {kd : IntKind} {H : AH} {v : Value} {ks : List (List Int)} {t e : TypeId} (h : SlK sz kd H v ks) (ht : und P t = .slice e) (hs : szt P e = sz) (h0 : 0 < sz) (hd : isAggD (und P e) = true) {i : Nat} {key : List Int} (hi : ks[i]? = some key) :
    ∃ p, xindexAddr P t v (.int .i64 (i : Nat)) = some p ∧ ∀ H' : AH, (∀ j, j < H.length → hget H' j = hget H j) → xload P e p H' = some (.agg (iv kd key).toArray) := by
  have hil : i < ks.length := (List.getElem?_eq_some_iff.1 hi).1
  rcases h with ⟨a, rfl, rfl⟩ | ⟨j, b, rfl, hb, hc, hk⟩
  · simp at hi
  · refine ⟨.pointer (some ⟨j, i * sz, none⟩), ?_, fun H' hl => ?_⟩
    · unfold xindexAddr
      simp only [ht, hs]
      rw [if_pos ⟨by omega, by omega, h0⟩]
      simp
    · unfold xload
      have h2 : i * sz + sz ≤ b.cells.length := by
        have : (i + 1) * sz ≤ ks.length * sz := Nat.mul_le_mul_right _ hil
        rw [Nat.add_mul] at this
        omega
      simp only [hl j (hget_lt hb), hb, hd, hs, if_true]
      rw [if_pos ⟨h0, h2⟩, hk i key hi]
/-- What is told of such a slice. -/
structure ToldK (sz : Nat) (kd : IntKind) (W : World) (v : Value) (E : List (Ent × Blk)) (vt : Nat → Value) (ks : List (List Int)) : Prop where
  ro : ∀ x ∈ E, RoOk W x
  le : E.length ≤ 1
  rel : ∀ (A B : List (Ent × Blk)), V ((A ++ (E ++ B)).map (·.1)) (vt A.length) v
  sl : ∀ (A B : List (Ent × Blk)), SlK sz kd ((A ++ (E ++ B)).map fun x => some x.2) (vt A.length) ks
section
variable {P : Program} {W : World} {H : Type} {enc : TypeId × Value → H}
theorem open_kslice {r : Reach} {b0 base : Nat} {sp : Nat → Bool} {hd : Bool} {t e e0 : TypeId} {m : Nat} {kd : IntKind} {v : Value} {d : DataW H} {p : List MemPlace} (ht : P.underlying t = some (.slice e)) (he : P.underlying e = some (.array m e0)) (he0 : P.underlying e0 = some (.int kd)) (hc0 : P.cellsOf e0 = 1) (hc : P.cellsOf e = m) (hm : 0 < m)
    (hv : Value.okWide P W r b0 t v) (h : DataW.Trod enc P W base sp hd t v d p) : ∃ (E : List (Ent × Blk)) (vt : Nat → Value) (ks : List (List Int)), ToldK m kd W v E vt ks ∧ (∀ key ∈ ks, key.length = m ∧ ∀ x ∈ key, (Lit.int kd x).wf = true) ∧ ks.length ≤ maxLen := by
  obtain ⟨a0, l0, c0, rfl⟩ := okWide_slice ht hv
  obtain ⟨fuel, hf⟩ := h
  rcases DataW.trod_slice ht hf with ⟨h0, _⟩ | ⟨a, len, cap, elems, rest, n, _, h0, _, hb, hl, hmx, hlen, hel, _, _⟩
  · have h1 : Value.slice a0 l0 c0 = Value.slice none 0 0 := by simpa [Value.cells] using h0
    rw [h1]
    exact ⟨[], fun _ => .slice none 0 0, [], ⟨fun x h => (by cases h), by simp, fun A B => .one (.plain rfl), fun A B => .inl ⟨none, rfl, rfl⟩⟩, fun n hn => (by cases hn), Nat.zero_le _⟩
  · have h1 : Value.slice a0 l0 c0 = Value.slice (some a) len cap := by simpa [Value.cells] using h0
    rw [h1] at hv ⊢
    obtain ⟨hsp, cs, ty, fr, hh⟩ := slice_at ht hv
    obtain ⟨b, off, spot⟩ := a
    simp only at hsp hh
    subst hsp
    have each : ∀ i, i < len → ∃ key : List Int, key.length = m ∧ (∀ x ∈ key, (Lit.int kd x).wf = true) ∧ ∀ j, j < m → W.cell? ⟨b, off + (i * m + j), none⟩ = some (.int kd (key.getD j 0)) := by
      intro i hi
      have h2 := hel i hi
      rw [hc, List.getElem?_eq_getElem (show i < elems.length by omega), Option.bind_eq_some_iff] at h2
      obtain ⟨cs', hcs, hy⟩ := h2
      obtain ⟨xs, q, rfl, _, hl2, hn2, hel2⟩ := DataW.trod_array he hy
      rw [hc] at hl2
      have hall : ∀ j, j < m → ∃ x, cs'[j]? = some (.int kd x) ∧ (Lit.int kd x).wf = true := by
        intro j hj
        have h3 := hel2 j hj
        rw [hc0, List.getElem?_eq_getElem (show j < xs.length by omega)] at h3
        obtain ⟨x, hx1, _, hw⟩ := DataW.trod_int he0 h3
        refine ⟨x, ?_, hw⟩
        have h4 := congrArg (fun l : List Value => l[0]?) hx1
        simpa [List.getElem?_take, List.getElem?_drop] using h4
      have hcell := (World.cells?_some hcs).2.2
      refine ⟨cs'.map num, by simpa using hl2, fun x hx => ?_, fun j hj => ?_⟩
      · obtain ⟨y, hy2, rfl⟩ := List.mem_map.1 hx
        obtain ⟨j, hj, rfl⟩ := List.mem_iff_getElem.1 hy2
        obtain ⟨x, hx1, hw⟩ := hall j (by omega)
        rw [List.getElem?_eq_getElem hj] at hx1
        rw [Option.some.inj hx1]
        exact hw
      · obtain ⟨x, hx1, _⟩ := hall j hj
        have h5 := hcell j hj
        rw [add_none', add_none'] at h5
        rw [show off + (i * m + j) = off + i * m + j by omega, h5, hx1]
        simp [hx1, num]
    let f : Nat → List Int := fun i => if h : i < len then (each i h).choose else []
    have hf1 : ∀ i, i < len → (f i).length = m ∧ (∀ x ∈ f i, (Lit.int kd x).wf = true) ∧ ∀ j, j < m → W.cell? ⟨b, off + (i * m + j), none⟩ = some (.int kd ((f i).getD j 0)) := by
      intro i hi
      have := (each i hi).choose_spec
      simp only [f, hi, dif_pos]
      exact this
    let xs : List Value := (List.range (len * m)).map fun i => .int kd ((f (i / m)).getD (i % m) 0)
    have hxl : xs.length = len * m := by simp [xs]
    have hxs : ∀ i x, xs[i]? = some x → W.cell? ⟨b, off + i, none⟩ = some x ∧ plain1 x = true := by
      intro i x hx
      have hi : i < len * m := by rw [← hxl]; exact (List.getElem?_eq_some_iff.1 hx).1
      have hq : i / m < len := Nat.div_lt_of_lt_mul (by rw [Nat.mul_comm]; exact hi)
      have hr : i % m < m := Nat.mod_lt _ hm
      have h6 := (hf1 (i / m) hq).2.2 (i % m) hr
      have e1 : i / m * m + i % m = i := by rw [Nat.mul_comm]; exact Nat.div_add_mod i m
      rw [e1] at h6
      simp only [xs, List.getElem?_map, List.getElem?_range hi, Option.map_some, Option.some.injEq] at hx
      rw [← hx]
      exact ⟨h6, rfl⟩
    refine ⟨[(⟨b, off, 0, none⟩, ⟨xs, ty, none⟩)], fun n => .slice (some ⟨n, 0, none⟩) len len, (List.range len).map f, ⟨fun x hxm => ?_, by simp, fun A B => ?_, fun A B => .inr ⟨A.length, ⟨xs, ty, none⟩, by simp, ?_, by simp [hxl], fun i key hk => ?_⟩⟩, fun key hk => ?_, by simp; omega⟩
    · rw [List.mem_singleton] at hxm
      subst hxm
      refine ⟨(Array.getElem?_eq_some_iff.1 hh).1, rfl, cs, fr, hh, fun j v hv => ?_⟩
      have := hxs j v hv
      simp only [World.cell?, hh] at this
      simpa using this
    · have := V1.sl (m := (A ++ ([((⟨b, off, 0, none⟩ : Ent), (⟨xs, ty, none⟩ : Blk))] ++ B)).map (·.1)) (i := A.length) (off := 0) (len := len) (c := cap) (e := ⟨b, off, 0, none⟩) (by simp) hl (fun _ s hs => by cases hs)
      exact .one this
    · unfold hget; simp
    · rw [List.getElem?_map] at hk
      have hi : i < len := by
        rcases Nat.lt_or_ge i len with h | h
        · exact h
        · rw [List.getElem?_eq_none (by simpa using h)] at hk; cases hk
      rw [List.getElem?_range hi] at hk
      simp only [Option.map_some, Option.some.injEq] at hk
      subst hk
      have h7 : (i + 1) * m ≤ len * m := Nat.mul_le_mul_right _ hi
      rw [Nat.add_mul] at h7
      apply List.ext_getElem?
      intro j
      rcases Nat.lt_or_ge j m with hj | hj
      · have e1 : (i * m + j) / m = i := by rw [Nat.mul_comm, Nat.mul_add_div hm, Nat.div_eq_of_lt hj, Nat.add_zero]
        have e2 : (i * m + j) % m = j := by rw [Nat.mul_comm, Nat.mul_add_mod, Nat.mod_eq_of_lt hj]
        rw [List.getElem?_take_of_lt hj, List.getElem?_drop, iv_getN kd _ j (by rw [(hf1 i hi).1]; exact hj)]
        show ((List.range (len * m)).map _)[i * m + j]? = _
        rw [List.getElem?_map, List.getElem?_range (by omega)]
        simp only [Option.map_some, e1, e2]
      · rw [List.getElem?_eq_none (by simp; omega), List.getElem?_eq_none (by rw [iv_length, (hf1 i hi).1]; exact hj)]
    · obtain ⟨i, hi, rfl⟩ := List.mem_map.1 hk
      have hi : i < len := by simpa using hi
      exact ⟨(hf1 i hi).1, (hf1 i hi).2.1⟩
end
end
end Go.Proofs.YtnddofgabipknaaDoor
