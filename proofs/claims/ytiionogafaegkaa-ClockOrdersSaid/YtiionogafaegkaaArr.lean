/-
  Rows of integers of one kind, whole: arrays as values, and as blocks of memory. Plain lemmas on the model, over any program.
-/
import Derived.WalkKit
import Derived.Laws.Rows
import Derived.Laws.Tables
import Derived.Laws.StructEq
import Derived.Deep.RegionHeld3
import Derived.Deep.RegionWith
import Derived.Deep.QuietTactic
import Derived.BigQuiet
namespace Go.Proofs.Ytiionogafaegkaa
open Go.RowKit

/-- A fact kept from the walk. -/
theorem hide {p : Prop} (h : p) : Hid p := h

/-- Integers of one kind as values. -/
def ints (k : IntKind) (l : List Int) : Array Value := (l.map (Value.int k)).toArray

theorem ints_size (k : IntKind) (l : List Int) : (ints k l).size = l.length := by simp [ints]
theorem ints_at (k : IntKind) (l : List Int) (i : Nat) (h : i < l.length) : (ints k l)[i]? = some (.int k (l.getD i 0)) := by
  simp [ints, List.getElem?_eq_getElem h]
theorem ints_set (k : IntKind) (l : List Int) (i : Nat) (x : Int) : (ints k l).setIfInBounds i (.int k x) = ints k (l.set i x) := by
  simp [ints, List.map_set]
theorem ints_one (k : IntKind) (l : List Int) : (ints k l).all (·.oneCell') = true := by
  simp [ints, Value.oneCell']
theorem ints_inj {k : IntKind} {l m : List Int} (h : ints k l = ints k m) : l = m := by
  have := congrArg Array.toList h
  simp only [ints] at this
  exact (List.map_inj_right (fun _ _ hx => by injection hx)).1 this

section
variable {P : Program}

theorem run_part_ints (w : World) (e : TypeId) (k kk : IntKind) (l : List Int) (i : Nat) (hu : P.underlying e = some (.int kk)) (hi : i < l.length) :
    (part e (ints k l) i).run P w = .ok (.int k (l.getD i 0)) w := by
  simp [part, isAgg, run_underlying hu, ints_at k l i hi]

/-- An element of an array that is a value. -/
theorem run_index_ints (w : World) (t e : TypeId) (n : Nat) (k kk kj : IntKind) (info : TypeInfo) (l : List Int) (i : Nat) (ht : P.underlying t = some (.array n e)) (he : P.underlying e = some (.int kk))
    (hs : P.info? e = some info) (h1 : info.size = 1) (hn : l.length = n) (hi : i < n) :
    (Instr.index t (.agg (ints k l)) (.int kj (i : Int))).run P w = .ok (.int k (l.getD i 0)) w := by
  have hp := run_part_ints (P := P) w e k kk l i he (by omega)
  have h0 : 0 ≤ (i : Int) ∧ (i : Int) < (n : Int) := by omega
  simp [Instr.index, asIntOf, run_underlying ht, h0, sizeOf, typeInfo, hs, h1, hp]
  omega

theorem run_equalIn_ints_from (d : Nat) (e : TypeId) (k kk : IntKind) (l m : List Int) (he : P.underlying e = some (.int kk)) (hl : l.length = m.length) (w : World) :
    ∀ j i, i + j = l.length →
    (forIn (m := Sem) (List.range' i j 1) ((none, ()) : Option Bool × Unit) fun i _ => do
        let a ← part e (ints k l) (i * 1)
        let b ← part e (ints k m) (i * 1)
        let r ← Op.equalIn (d + 1) e a b
        if (!r) = true then pure (ForInStep.done (some false, ())) else pure (ForInStep.yield (none, ()))).run P w =
      .ok (if l.drop i = m.drop i then (none, ()) else (some false, ())) w := by
  intro j
  induction j with
  | zero => intro i hij; simp [List.drop_eq_nil_of_le (show l.length ≤ i by omega), List.drop_eq_nil_of_le (show m.length ≤ i by omega)]
  | succ j ih =>
    intro i hij
    have hp := run_part_ints (P := P) w e k kk l i he (by omega)
    have hq := run_part_ints (P := P) w e k kk m i he (by omega)
    have hr := run_equalIn_int (P := P) w d e k kk (l.getD i 0) (m.getD i 0) he
    have hl1 : l.drop i = l.getD i 0 :: l.drop (i + 1) := by rw [List.drop_eq_getElem_cons (show i < l.length by omega)]; simp [List.getElem?_eq_getElem (show i < l.length by omega)]
    have hm1 : m.drop i = m.getD i 0 :: m.drop (i + 1) := by rw [List.drop_eq_getElem_cons (show i < m.length by omega)]; simp [List.getElem?_eq_getElem (show i < m.length by omega)]
    rw [List.range'_succ, List.forIn_cons]
    simp only [Sem.run_bind, Nat.mul_one, hp, hq, hr, Result.andThen_ok]
    by_cases hx : l.getD i 0 = m.getD i 0
    · simp only [hx, beq_self_eq_true, Bool.not_true, Bool.false_eq_true, if_false, Sem.run_pure, Result.andThen_ok]
      have := ih (i + 1) (by omega)
      simp only [Nat.mul_one] at this
      rw [this, hl1, hm1, hx]
      simp
    · have hb : (l.getD i 0 == m.getD i 0) = false := by simpa using hx
      simp only [hb, Bool.not_false, if_true, Sem.run_pure, Result.andThen_ok]
      rw [hl1, hm1, if_neg (by intro h; injection h with h; exact hx h)]

/-- Two arrays of integers, asked for equality. -/
theorem run_equalIn_ints (d : Nat) (t e : TypeId) (n : Nat) (k kk : IntKind) (info : TypeInfo) (l m : List Int) (ht : P.underlying t = some (.array n e)) (he : P.underlying e = some (.int kk))
    (hs : P.info? e = some info) (h1 : info.size = 1) (hl : l.length = n) (hm : m.length = n) (w : World) :
    (Op.equalIn (d + 2) t (.agg (ints k l)) (.agg (ints k m))).run P w = .ok (l == m) w := by
  have h := run_equalIn_ints_from (P := P) d e k kk l m he (by omega) w n 0 (by omega)
  rw [show d + 2 = (d + 1) + 1 from rfl]
  unfold Op.equalIn
  simp only [Sem.run_bind, run_underlying ht, Result.andThen_ok, sizeOf, typeInfo, run_program, hs, Sem.run_pure, h1]
  rw [Std.Legacy.Range.forIn_eq_forIn_range']
  simp only [Std.Legacy.Range.size, Nat.sub_zero, Nat.add_sub_cancel, Nat.div_one]
  rw [h]
  by_cases hx : l = m
  · subst hx; simp
  · simp [hx]

theorem run_eql_ints (t e : TypeId) (n : Nat) (k kk : IntKind) (info : TypeInfo) (l m : List Int) (ht : P.underlying t = some (.array n e)) (he : P.underlying e = some (.int kk))
    (hs : P.info? e = some info) (h1 : info.size = 1) (hl : l.length = n) (hm : m.length = n) (w : World) :
    (binOp .eql t (.agg (ints k l)) (.agg (ints k m))).run P w = .ok (.bool (l == m)) w := by
  rw [run_eql_struct, run_equalIn_ints 9998 t e n k kk info l m ht he hs h1 hl hm]; rfl
theorem run_neq_ints (t e : TypeId) (n : Nat) (k kk : IntKind) (info : TypeInfo) (l m : List Int) (ht : P.underlying t = some (.array n e)) (he : P.underlying e = some (.int kk))
    (hs : P.info? e = some info) (h1 : info.size = 1) (hl : l.length = n) (hm : m.length = n) (w : World) :
    (binOp .neq t (.agg (ints k l)) (.agg (ints k m))).run P w = .ok (.bool (!(l == m))) w := by
  rw [run_neq_struct, run_equalIn_ints 9998 t e n k kk info l m ht he hs h1 hl hm]; rfl

/-- The cells of a block that was just made. -/
theorem news_new (w : World) (cs : Array Value) (t : TypeId) : ∀ j u, cs.toList[j]? = some u → (w.alloc (.cells cs t)).cell? ((⟨w.heap.size, 0, none⟩ : Addr).add j) = some u := by
  intro j u hu
  have hadd : (⟨w.heap.size, 0, none⟩ : Addr).add j = ⟨w.heap.size, j, none⟩ := by unfold Addr.add; split <;> simp_all
  rw [hadd, cell_of_row _ _ _ _ _ _ (heap_alloc_new w _)]
  simpa using hu
theorem own_nil (w : World) (b e sz : Nat) : w.ownsRow b e sz (.slice none 0 0) 0 [] := ⟨by simp, Or.inl ⟨rfl, rfl⟩⟩
/-- What owns something owns it from its base on. -/
theorem own_base {w : World} {b e sz n : Nat} {v : Value} {xs : List Value} (h : w.ownsRow b e sz v n xs) : ∀ r, v.ownBlock = some r → b ≤ r := by
  intro r hr
  rcases h.2 with ⟨rfl, _⟩ | ⟨g', cap, cur, rfl, hg, _⟩
  · cases hr
  · have : g' = r := by simpa [Value.ownBlock] using hr
    omega

/-- Block b is the row of these integers, none frozen. -/
def Row (w : World) (b : Nat) (t : TypeId) (k : IntKind) (l : List Int) : Prop := w.heap[b]? = some (.cells (ints k l) t (0, 0))

section
variable {w w' : World} {b : Nat} {t : TypeId} {k : IntKind} {l : List Int}
theorem Row.lt (h : Row w b t k l) : b < w.heap.size := by
  rcases Nat.lt_or_ge b w.heap.size with hlt | hge
  · exact hlt
  · unfold Row at h; rw [Array.getElem?_eq_none hge] at h; cases h
theorem Row.cell (h : Row w b t k l) {i : Nat} (hi : i < l.length) : w.cell? ⟨b, i, none⟩ = some (.int k (l.getD i 0)) := by
  rw [cell_of_row w b i _ t (0, 0) h]; exact ints_at k l i hi
theorem Row.free (h : Row w b t k l) (i : Nat) : w.frozen? ⟨b, i, none⟩ = false := frozen_of_row _ _ _ _ _ h
theorem Row.new (w : World) (t : TypeId) (k : IntKind) (l : List Int) : Row (w.alloc (.cells (ints k l) t)) w.heap.size t k l := heap_alloc_new w _
theorem Row.drew (h : Row w b t k l) : Row w.drew b t k l := h
theorem Row.alloc (h : Row w b t k l) (o : Obj) : Row (w.alloc o) b t k l := (Below.heap_alloc w o b h.lt).trans h
theorem Row.set_ (h : Row w b t k l) (i : Nat) (x : Int) : Row (w.setCell ⟨b, i, none⟩ (.int k x)) b t k (l.set i x) := by
  unfold Row
  rw [heap_setCell_same w b i _ t _ h, ints_set]
theorem Row.far (h : Row w b t k l) {p : Addr} (hp : b ≠ p.block) (u : Value) : Row (w.setCell p u) b t k l := (Below.heap_setCell w p u b hp).trans h
theorem Row.below {B : Nat} (h : Row w b t k l) (hb : Below B w w') (hg : b < B) : Row w' b t k l := (hb.block b hg).trans h
theorem Row.put (h : Row w b t k l) (m : List Int) : Row (w.setRow b (ints k m)) b t k m := setRow_heap w b _ _ t _ h
theorem Row.farRow (h : Row w b t k l) {g : Nat} (hp : b ≠ g) (cs : Array Value) : Row (w.setRow g cs) b t k l := (setRow_other w g b cs hp).trans h
end
theorem below_drewN {B : Nat} {a w : World} (h : Below B a w) (n : Nat) : Below B a (w.drewN n) := ⟨h.os, h.tape, h.output, h.size, h.block⟩
theorem below_setRow {B : Nat} {a w : World} (h : Below B a w) {g : Nat} (hg : B ≤ g) (cs : Array Value) : Below B a (w.setRow g cs) :=
  h.trans ⟨rfl, rfl, rfl, by simp, fun k hk => setRow_other _ _ _ _ (by omega)⟩
end
end Go.Proofs.Ytiionogafaegkaa
