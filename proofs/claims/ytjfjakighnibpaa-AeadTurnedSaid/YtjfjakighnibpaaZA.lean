/-
  The stream, by its text.
-/
import Derived.WalkKit
import Derived.Laws.Rows
import Derived.Laws.Tables
import Derived.Laws.StructEq
import Derived.Deep.RegionHeld3
import Derived.Deep.RegionWith
import Derived.Deep.QuietTactic
import Derived.BigQuiet
import Derived.Laws.BytesArg
import Derived.Lib.ConvBytes
import Derived.Laws.AppendOwn
set_option linter.unusedVariables false
set_option linter.unusedSimpArgs false
set_option maxRecDepth 100000
namespace Go.Proofs.Ytjfjakighnibpaa.St
open Go.Proofs.Ytjfjakighnibpaa
section
open Go.RowKit

/-- A fact kept from the walk. -/
theorem hide {p : Prop} (h : p) : Hid p := h

/-- Integers of one kind as values. -/
def ints (k : IntKind) (l : List Int) : Array Value := (l.map (Value.int k)).toArray

theorem ints_size (k : IntKind) (l : List Int) : (ints k l).size = l.length := by simp [ints]
theorem ints_at (k : IntKind) (l : List Int) (i : Nat) (h : i < l.length) : (ints k l)[i]? = some (.int k (l.getD i 0)) := by
  simp [ints, List.getElem?_eq_getElem h]
theorem ints_set (k : IntKind) (l : List Int) (i : Nat) (x : Int) : (ints k l).setIfInBounds i (.int k x) = ints k (l.set i x) := by
  simp [ints, List.map_set]
theorem ints_one (k : IntKind) (l : List Int) : (ints k l).all (·.oneCell') = true := by
  simp [ints, Value.oneCell']
theorem ints_inj {k : IntKind} {l m : List Int} (h : ints k l = ints k m) : l = m := by
  have := congrArg Array.toList h
  simp only [ints] at this
  exact (List.map_inj_right (fun _ _ hx => by injection hx)).1 this

section
variable {P : Program}

theorem run_part_ints (w : World) (e : TypeId) (k kk : IntKind) (l : List Int) (i : Nat) (hu : P.underlying e = some (.int kk)) (hi : i < l.length) :
    (part e (ints k l) i).run P w = .ok (.int k (l.getD i 0)) w := by
  simp [part, isAgg, run_underlying hu, ints_at k l i hi]

/-- An element of an array that is a value. -/
theorem run_index_ints (w : World) (t e : TypeId) (n : Nat) (k kk kj : IntKind) (info : TypeInfo) (l : List Int) (i : Nat) (ht : P.underlying t = some (.array n e)) (he : P.underlying e = some (.int kk))
    (hs : P.info? e = some info) (h1 : info.size = 1) (hn : l.length = n) (hi : i < n) :
    (Instr.index t (.agg (ints k l)) (.int kj (i : Int))).run P w = .ok (.int k (l.getD i 0)) w := by
  have hp := run_part_ints (P := P) w e k kk l i he (by omega)
  have h0 : 0 ≤ (i : Int) ∧ (i : Int) < (n : Int) := by omega
  simp [Instr.index, asIntOf, run_underlying ht, h0, sizeOf, typeInfo, hs, h1, hp]
  omega

theorem run_equalIn_ints_from (d : Nat) (e : TypeId) (k kk : IntKind) (l m : List Int) (he : P.underlying e = some (.int kk)) (hl : l.length = m.length) (w : World) :
    ∀ j i, i + j = l.length →
    (forIn (m := Sem) (List.range' i j 1) ((none, ()) : Option Bool × Unit) fun i _ => do
        let a ← part e (ints k l) (i * 1)
        let b ← part e (ints k m) (i * 1)
        let r ← Op.equalIn (d + 1) e a b
        if (!r) = true then pure (ForInStep.done (some false, ())) else pure (ForInStep.yield (none, ()))).run P w =
      .ok (if l.drop i = m.drop i then (none, ()) else (some false, ())) w := by
  intro j
  induction j with
  | zero => intro i hij; simp [List.drop_eq_nil_of_le (show l.length ≤ i by omega), List.drop_eq_nil_of_le (show m.length ≤ i by omega)]
  | succ j ih =>
    intro i hij
    have hp := run_part_ints (P := P) w e k kk l i he (by omega)
    have hq := run_part_ints (P := P) w e k kk m i he (by omega)
    have hr := run_equalIn_int (P := P) w d e k kk (l.getD i 0) (m.getD i 0) he
    have hl1 : l.drop i = l.getD i 0 :: l.drop (i + 1) := by rw [List.drop_eq_getElem_cons (show i < l.length by omega)]; simp [List.getElem?_eq_getElem (show i < l.length by omega)]
    have hm1 : m.drop i = m.getD i 0 :: m.drop (i + 1) := by rw [List.drop_eq_getElem_cons (show i < m.length by omega)]; simp [List.getElem?_eq_getElem (show i < m.length by omega)]
    rw [List.range'_succ, List.forIn_cons]
    simp only [Sem.run_bind, Nat.mul_one, hp, hq, hr, Result.andThen_ok]
    by_cases hx : l.getD i 0 = m.getD i 0
    · simp only [hx, beq_self_eq_true, Bool.not_true, Bool.false_eq_true, if_false, Sem.run_pure, Result.andThen_ok]
      have := ih (i + 1) (by omega)
      simp only [Nat.mul_one] at this
      rw [this, hl1, hm1, hx]
      simp
    · have hb : (l.getD i 0 == m.getD i 0) = false := by simpa using hx
      simp only [hb, Bool.not_false, if_true, Sem.run_pure, Result.andThen_ok]
      rw [hl1, hm1, if_neg (by intro h; injection h with h; exact hx h)]

/-- Two arrays of integers, asked for equality. -/
theorem run_equalIn_ints (d : Nat) (t e : TypeId) (n : Nat) (k kk : IntKind) (info : TypeInfo) (l m : List Int) (ht : P.underlying t = some (.array n e)) (he : P.underlying e = some (.int kk))
    (hs : P.info? e = some info) (h1 : info.size = 1) (hl : l.length = n) (hm : m.length = n) (w : World) :
    (Op.equalIn (d + 2) t (.agg (ints k l)) (.agg (ints k m))).run P w = .ok (l == m) w := by
  have h := run_equalIn_ints_from (P := P) d e k kk l m he (by omega) w n 0 (by omega)
  rw [show d + 2 = (d + 1) + 1 from rfl]
  unfold Op.equalIn
  simp only [Sem.run_bind, run_underlying ht, Result.andThen_ok, sizeOf, typeInfo, run_program, hs, Sem.run_pure, h1]
  rw [Std.Legacy.Range.forIn_eq_forIn_range']
  simp only [Std.Legacy.Range.size, Nat.sub_zero, Nat.add_sub_cancel, Nat.div_one]
  rw [h]
  by_cases hx : l = m
  · subst hx; simp
  · simp [hx]

theorem run_eql_ints (t e : TypeId) (n : Nat) (k kk : IntKind) (info : TypeInfo) (l m : List Int) (ht : P.underlying t = some (.array n e)) (he : P.underlying e = some (.int kk))
    (hs : P.info? e = some info) (h1 : info.size = 1) (hl : l.length = n) (hm : m.length = n) (w : World) :
    (binOp .eql t (.agg (ints k l)) (.agg (ints k m))).run P w = .ok (.bool (l == m)) w := by
  rw [run_eql_struct, run_equalIn_ints 9998 t e n k kk info l m ht he hs h1 hl hm]; rfl
theorem run_neq_ints (t e : TypeId) (n : Nat) (k kk : IntKind) (info : TypeInfo) (l m : List Int) (ht : P.underlying t = some (.array n e)) (he : P.underlying e = some (.int kk))
    (hs : P.info? e = some info) (h1 : info.size = 1) (hl : l.length = n) (hm : m.length = n) (w : World) :
    (binOp .neq t (.agg (ints k l)) (.agg (ints k m))).run P w = .ok (.bool (!(l == m))) w := by
  rw [run_neq_struct, run_equalIn_ints 9998 t e n k kk info l m ht he hs h1 hl hm]; rfl

/-- The cells of a block that was just made. -/
theorem news_new (w : World) (cs : Array Value) (t : TypeId) : ∀ j u, cs.toList[j]? = some u → (w.alloc (.cells cs t)).cell? ((⟨w.heap.size, 0, none⟩ : Addr).add j) = some u := by
  intro j u hu
  have hadd : (⟨w.heap.size, 0, none⟩ : Addr).add j = ⟨w.heap.size, j, none⟩ := by unfold Addr.add; split <;> simp_all
  rw [hadd, cell_of_row _ _ _ _ _ _ (heap_alloc_new w _)]
  simpa using hu
theorem own_nil (w : World) (b e sz : Nat) : w.ownsRow b e sz (.slice none 0 0) 0 [] := ⟨by simp, Or.inl ⟨rfl, rfl⟩⟩
/-- What owns something owns it from its base on. -/
theorem own_base {w : World} {b e sz n : Nat} {v : Value} {xs : List Value} (h : w.ownsRow b e sz v n xs) : ∀ r, v.ownBlock = some r → b ≤ r := by
  intro r hr
  rcases h.2 with ⟨rfl, _⟩ | ⟨g', cap, cur, rfl, hg, _⟩
  · cases hr
  · have : g' = r := by simpa [Value.ownBlock] using hr
    omega

/-- Block b is the row of these integers, none frozen. -/
def Row (w : World) (b : Nat) (t : TypeId) (k : IntKind) (l : List Int) : Prop := w.heap[b]? = some (.cells (ints k l) t (0, 0))

section
variable {w w' : World} {b : Nat} {t : TypeId} {k : IntKind} {l : List Int}
theorem Row.lt (h : Row w b t k l) : b < w.heap.size := by
  rcases Nat.lt_or_ge b w.heap.size with hlt | hge
  · exact hlt
  · unfold Row at h; rw [Array.getElem?_eq_none hge] at h; cases h
theorem Row.cell (h : Row w b t k l) {i : Nat} (hi : i < l.length) : w.cell? ⟨b, i, none⟩ = some (.int k (l.getD i 0)) := by
  rw [cell_of_row w b i _ t (0, 0) h]; exact ints_at k l i hi
theorem Row.free (h : Row w b t k l) (i : Nat) : w.frozen? ⟨b, i, none⟩ = false := frozen_of_row _ _ _ _ _ h
theorem Row.new (w : World) (t : TypeId) (k : IntKind) (l : List Int) : Row (w.alloc (.cells (ints k l) t)) w.heap.size t k l := heap_alloc_new w _
theorem Row.drew (h : Row w b t k l) : Row w.drew b t k l := h
theorem Row.alloc (h : Row w b t k l) (o : Obj) : Row (w.alloc o) b t k l := (Below.heap_alloc w o b h.lt).trans h
theorem Row.set_ (h : Row w b t k l) (i : Nat) (x : Int) : Row (w.setCell ⟨b, i, none⟩ (.int k x)) b t k (l.set i x) := by
  unfold Row
  rw [heap_setCell_same w b i _ t _ h, ints_set]
theorem Row.far (h : Row w b t k l) {p : Addr} (hp : b ≠ p.block) (u : Value) : Row (w.setCell p u) b t k l := (Below.heap_setCell w p u b hp).trans h
theorem Row.below {B : Nat} (h : Row w b t k l) (hb : Below B w w') (hg : b < B) : Row w' b t k l := (hb.block b hg).trans h
theorem Row.put (h : Row w b t k l) (m : List Int) : Row (w.setRow b (ints k m)) b t k m := setRow_heap w b _ _ t _ h
theorem Row.farRow (h : Row w b t k l) {g : Nat} (hp : b ≠ g) (cs : Array Value) : Row (w.setRow g cs) b t k l := (setRow_other w g b cs hp).trans h
end
theorem below_drewN {B : Nat} {a w : World} (h : Below B a w) (n : Nat) : Below B a (w.drewN n) := ⟨h.os, h.tape, h.output, h.size, h.block⟩
theorem below_setRow {B : Nat} {a w : World} (h : Below B a w) {g : Nat} (hg : B ≤ g) (cs : Array Value) : Below B a (w.setRow g cs) :=
  h.trans ⟨rfl, rfl, rfl, by simp, fun k hk => setRow_other _ _ _ _ (by omega)⟩
end
end

section
open Go.RowKit

/-- The element at a place. -/
def gi (l : List Int) (i : Nat) : Int := l.getD i 0
theorem gi_def (l : List Int) (i : Nat) : gi l i = l.getD i 0 := rfl
theorem gi_set_same (l : List Int) (i : Nat) (x : Int) (h : i < l.length) : gi (l.set i x) i = x := by simp [gi, h]
theorem gi_set_other (l : List Int) (i j : Nat) (x : Int) (h : i ≠ j) : gi (l.set i x) j = gi l j := by
  unfold gi
  simp only [List.getD_eq_getElem?_getD]
  rw [List.getElem?_set_ne h]
theorem gi_set (l : List Int) (i j : Nat) (x : Int) (h : i < l.length) : gi (l.set i x) j = if i = j then x else gi l j := by
  split
  · rename_i e; subst e; exact gi_set_same l i x h
  · rename_i e; exact gi_set_other l i j x e
theorem list_ext_gi {l m : List Int} (h : l.length = m.length) (e : ∀ i, i < l.length → gi l i = gi m i) : l = m := by
  apply List.ext_getElem h
  intro i h1 h2
  have := e i h1
  simpa [gi, h1, h2] using this

section
variable {w : World} {b : Nat} {t : TypeId} {k : IntKind} {l : List Int} {P : Program}
theorem Row.at_ (h : Row w b t k l) {i : Nat} (hi : i < l.length) : w.cell? ⟨b, i, none⟩ = some (.int k (gi l i)) := h.cell hi
theorem Row.over (w : World) (old : Array Value) (t : TypeId) (k : IntKind) (m : List Int) : Row ((w.alloc (.cells old t)).setRow w.heap.size (ints k m)) w.heap.size t k m := setRow_heap _ _ _ _ t _ (heap_alloc_new _ _)
/-- A store into the row, and a draw. -/
theorem Row.grown_set (w : World) (b i : Nat) (v : Value) : w.grownBy (w.setCell ⟨b, i, none⟩ v) (some b) :=
  ⟨rfl, rfl, rfl, by simp [World.setCell], fun q _ hq => Below.heap_setCell _ _ _ _ (fun e => hq (by rw [e]))⟩
theorem grown_drew {a w : World} {row : Option Nat} (h : a.grownBy w row) : a.grownBy w.drew row := ⟨h.os, h.tape, h.output, h.size, h.block⟩
theorem grown_comp {a b c : World} {row : Option Nat} (h : a.grownBy b row) (k : b.grownBy c row) : a.grownBy c row :=
  ⟨k.os.trans h.os, k.tape.trans h.tape, k.output.trans h.output, Nat.le_trans h.size k.size, fun i hi hne => (k.block i (Nat.lt_of_lt_of_le hi h.size) hne).trans (h.block i hi hne)⟩
theorem Row.away {w' : World} {g : Nat} (h : Row w b t k l) (hg : w.grownBy w' (some g)) (hne : b ≠ g) : Row w' b t k l := (hg.block b h.lt (fun e => hne (by injection e))).trans h
/-- What turned one row of the call's own only turned nothing below. -/
theorem below_of_grown {B g : Nat} {a w w' : World} (h : Below B a w) (hg : w.grownBy w' (some g)) (hB : B ≤ w.heap.size) (hb : B ≤ g) : Below B a w' :=
  h.grown hg hB (fun k hk => by injection hk with hk; omega)
theorem grown_of_below {a w : World} (h : Below a.heap.size a w) (row : Option Nat) : a.grownBy w row := ⟨h.os, h.tape, h.output, h.size, fun i hi _ => h.block i hi⟩

theorem index_gi (w : World) (t e : TypeId) (n : Nat) (k kk kj : IntKind) (info : TypeInfo) (l : List Int) (i : Nat) (ht : P.underlying t = some (.array n e)) (he : P.underlying e = some (.int kk))
    (hs : P.info? e = some info) (h1 : info.size = 1) (hn : l.length = n) (hi : i < n) :
    (Instr.index t (.agg (ints k l)) (.int kj (i : Int))).run P w = .ok (.int k (gi l i)) w := run_index_ints w t e n k kk kj info l i ht he hs h1 hn hi
end
end

section
open Go.RowKit

/-- The byte of a string at a place, as a number. -/
def gb (s : ByteArray) (i : Nat) : Int := ((s.data.toList.getD i 0).toNat : Int)
theorem gb_bd (s : ByteArray) (i : Nat) : 0 ≤ gb s i ∧ gb s i ≤ 255 := by
  unfold gb
  have := (s.data.toList.getD i 0).toNat_lt
  omega
theorem gb_at (s : ByteArray) (i : Nat) (h : i < s.size) : gb s i = (s[i].toNat : Int) := by
  unfold gb
  have h' : i < s.data.toList.length := by simpa using h
  rw [List.getD_eq_getElem?_getD, List.getElem?_eq_getElem h']
  simp [ByteArray.getElem_eq_getElem_data]
theorem gb_extract (s : ByteArray) (a e i : Nat) (h : a + i < e) (he : e ≤ s.size) : gb (s.extract a e) i = gb s (a + i) := by
  have h1 : i < (s.extract a e).size := by rw [ByteArray.size_extract]; omega
  rw [gb_at _ _ h1, gb_at s (a + i) (by omega)]
  simp [ByteArray.getElem_extract]

section
variable {P : Program}
theorem index_str (w : World) (t : TypeId) (kj : IntKind) (s : ByteArray) (i : Nat) (ht : P.underlying t = some .string) (hi : i < s.size) :
    (Instr.index t (.string s) (.int kj (i : Int))).run P w = .ok (.int .u8 (gb s i)) w := by
  have h0 : 0 ≤ (i : Int) := by omega
  simp [Instr.index, asIntOf, run_underlying ht, h0, hi, gb_at s i hi]

/-- A part of an array variable, as a slice. -/
theorem slice_row (w : World) (t e : TypeId) (n : Nat) (info : TypeInfo) (ht : P.underlying t = some (.array n e)) (hs : P.info? e = some info) (h1 : info.size = 1)
    (kl kh : IntKind) (b lo hi : Nat) (x y : Int) (hx : x = lo) (hy : y = hi) (hlh : lo ≤ hi) (hhn : hi ≤ n) (hln : lo < n) :
    (Instr.sliceAt t (.pointer (some ⟨b, 0, none⟩)) (some (.int kl x)) (some (.int kh y)) none).run P w = .ok (.slice (some ⟨b, lo, none⟩) (hi - lo) (n - lo)) w := by
  subst hx hy
  have hlen : P.arrayLen t = n := by simp [Program.arrayLen, ht]
  have hel : P.elem t = e := by simp [Program.elem, ht]
  have hu : P.underlying t = some (.array (P.arrayLen t) (P.elem t)) := by rw [hlen, hel]; exact ht
  rw [run_sliceAt_array_lh w t ⟨b, 0, none⟩ hu kl kh lo hi (by omega) (by omega) (by omega)]
  simp only [sizeOf, typeInfo, hel, Sem.run_bind, run_program, hs, Result.andThen_ok, Sem.run_pure, h1, hlen, slicedAt, Int.toNat_natCast]
  rw [if_neg (by omega)]
  congr 3
  unfold Addr.add
  split <;> simp_all
theorem slice_all (w : World) (t e : TypeId) (n : Nat) (info : TypeInfo) (ht : P.underlying t = some (.array n e)) (hs : P.info? e = some info) (h1 : info.size = 1) (b : Nat) (hn : 0 < n) :
    (Instr.sliceAt t (.pointer (some ⟨b, 0, none⟩)) none none none).run P w = .ok (.slice (some ⟨b, 0, none⟩) n n) w := by
  have hlen : P.arrayLen t = n := by simp [Program.arrayLen, ht]
  have hel : P.elem t = e := by simp [Program.elem, ht]
  have hu : P.underlying t = some (.array (P.arrayLen t) (P.elem t)) := by rw [hlen, hel]; exact ht
  rw [run_sliceAt_array_all w t ⟨b, 0, none⟩ hu]
  simp only [sizeOf, typeInfo, hel, Sem.run_bind, run_program, hs, Result.andThen_ok, Sem.run_pure, h1, hlen, slicedAt]
  rw [if_neg (by omega)]
  simp [Addr.add]

/-- A part of a row of bytes, made a string. -/
def part (l : List Int) (off len : Nat) : List Int := (l.drop off).take len
theorem part_len (l : List Int) (off len : Nat) (h : off + len ≤ l.length) : (part l off len).length = len := by simp [part]; omega
theorem gi_part (l : List Int) (off len i : Nat) (h : i < len) : gi (part l off len) i = gi l (off + i) := by
  unfold gi part
  simp only [List.getD_eq_getElem?_getD]
  rw [List.getElem?_take_of_lt h, List.getElem?_drop]
theorem conv_row (w : World) {b : Nat} {t src e dst : TypeId} {l : List Int} (hr : Row w b t .u8 l) (hs : P.underlying src = some (.slice e)) (he : P.underlying e = some (.int .u8)) (hd : P.underlying dst = some .string) (off len cap : Nat) (h : off + len ≤ l.length) :
    (convert src dst (.slice (some ⟨b, off, none⟩) len cap)).run P w = .ok (.string (strOfNums (part l off len))) w := by
  refine run_convert_bytes_arg w src e hs he b off len cap (part l off len) (part_len l off len h) (fun i hi => ?_) dst hd
  rw [hr.at_ (by omega), ← gi_def, gi_part l off len i hi]
theorem part_all (l : List Int) (n : Nat) (h : l.length = n) : part l 0 n = l := by simp [part, ← h]
theorem conv_all (w : World) {b : Nat} {t src e dst : TypeId} {l : List Int} (hr : Row w b t .u8 l) (hs : P.underlying src = some (.slice e)) (he : P.underlying e = some (.int .u8)) (hd : P.underlying dst = some .string) (n cap : Nat) (h : l.length = n) :
    (convert src dst (.slice (some ⟨b, 0, none⟩) n cap)).run P w = .ok (.string (strOfNums l)) w := by
  have := conv_row w hr hs he hd 0 n cap (by omega)
  rwa [part_all l n h] at this
/-- Each number of a list is a byte. -/
def Bytes (l : List Int) : Prop := ∀ i, i < l.length → 0 ≤ gi l i ∧ gi l i ≤ 255
theorem snum_size (l : List Int) : (strOfNums l).size = l.length := by simp [strOfNums, ByteArray.size]
theorem gb_nums (l : List Int) (hl : Bytes l) (i : Nat) (hi : i < l.length) : gb (strOfNums l) i = gi l i := by
  have h := hl i hi
  unfold gb strOfNums
  have e : gi l i = l[i] := by simp [gi, hi]
  rw [e] at h
  simp [hi, e]
  omega
theorem bytes_part {l : List Int} (hl : Bytes l) (off len : Nat) (h : off + len ≤ l.length) : Bytes (part l off len) := by
  intro i hi
  rw [part_len l off len h] at hi
  rw [gi_part l off len i hi]
  exact hl _ (by omega)
theorem bytes_set {l : List Int} (hl : Bytes l) (i : Nat) (x : Int) (hx : 0 ≤ x ∧ x ≤ 255) : Bytes (l.set i x) := by
  intro j hj
  simp only [List.length_set] at hj
  by_cases e : i = j
  · subst e; rw [gi_set_same l i x hj]; exact hx
  · rw [gi_set_other l i j x e]; exact hl j hj
end
end

section
open Go.RowKit

/-- Block b begins with these bytes, none of them frozen. -/
def Buf (w : World) (b : Nat) (t : TypeId) (l : List Int) : Prop := ∃ tail lo hi, w.heap[b]? = some (.cells (ints .u8 l ++ tail) t (lo, hi)) ∧ l.length ≤ lo

/-- A string's bytes as numbers. -/
def nums (s : ByteArray) : List Int := s.data.toList.map fun b => (b.toNat : Int)
theorem nums_len (s : ByteArray) : (nums s).length = s.size := by simp [nums]
theorem gi_nums (s : ByteArray) (i : Nat) (h : i < s.size) : gi (nums s) i = gb s i := by
  have h' : i < s.data.toList.length := by simpa using h
  unfold gi gb nums
  rw [List.getD_eq_getElem?_getD, List.getD_eq_getElem?_getD, List.getElem?_map, List.getElem?_eq_getElem h']
  rfl
theorem nums_bytes (s : ByteArray) : Bytes (nums s) := by
  intro i hi
  rw [nums_len] at hi
  rw [gi_nums s i hi]
  exact gb_bd s i
theorem nums_of (l : List Int) (hl : Bytes l) : nums (strOfNums l) = l := by
  apply list_ext_gi
  · rw [nums_len, snum_size]
  · intro i hi
    rw [nums_len, snum_size] at hi
    rw [gi_nums _ _ (by rw [snum_size]; exact hi), gb_nums l hl i hi]
theorem of_nums (s : ByteArray) : strOfNums (nums s) = s := by
  have h : (nums s).map (fun n => UInt8.ofNat n.toNat) = s.data.toList := by
    unfold nums
    rw [List.map_map]
    exact (List.map_congr_left fun b _ => by simp).trans (List.map_id _)
  unfold strOfNums
  rw [h]

section
variable {w w' : World} {b : Nat} {t : TypeId} {l : List Int} {P : Program}
theorem Buf.lt (h : Buf w b t l) : b < w.heap.size := by
  obtain ⟨tail, lo, hi, h, _⟩ := h
  rcases Nat.lt_or_ge b w.heap.size with hlt | hge
  · exact hlt
  · rw [Array.getElem?_eq_none hge] at h; cases h
theorem Buf.at_ (h : Buf w b t l) {i : Nat} (hi : i < l.length) : w.cell? ⟨b, i, none⟩ = some (.int .u8 (gi l i)) := by
  obtain ⟨tail, lo, hi', h, _⟩ := h
  rw [cell_of_row w b i _ t _ h, Array.getElem?_append_left (by rw [ints_size]; exact hi)]
  exact ints_at .u8 l i hi
theorem Buf.free (h : Buf w b t l) {i : Nat} (hi : i < l.length) : w.frozen? ⟨b, i, none⟩ = false := by
  obtain ⟨tail, lo, hi', h, hlo⟩ := h
  simp [World.frozen?, h]
  intro h1
  omega
theorem Buf.away (h : Buf w b t l) {g : Nat} (hg : w.grownBy w' (some g)) (hne : b ≠ g) : Buf w' b t l := by
  have hb := h.lt
  obtain ⟨tail, lo, hi, h, hlo⟩ := h
  exact ⟨tail, lo, hi, (hg.block b hb (fun e => hne (by injection e))).trans h, hlo⟩
theorem Buf.below {B : Nat} (h : Buf w b t l) (hb : Below B w w') (hg : b < B) : Buf w' b t l := by
  obtain ⟨tail, lo, hi, h, hlo⟩ := h
  exact ⟨tail, lo, hi, (hb.block b hg).trans h, hlo⟩
theorem Buf.alloc (h : Buf w b t l) (o : Obj) : Buf (w.alloc o) b t l := h.below (B := w.heap.size) ((Below.refl _ _).alloc (Nat.le_refl _) o) h.lt
theorem Buf.drew (h : Buf w b t l) : Buf w.drew b t l := h
theorem Buf.drewN (h : Buf w b t l) (n : Nat) : Buf (w.drewN n) b t l := h
theorem Buf.far (h : Buf w b t l) {p : Addr} (hp : b ≠ p.block) (u : Value) : Buf (w.setCell p u) b t l := by
  obtain ⟨tail, lo, hi, h, hlo⟩ := h
  exact ⟨tail, lo, hi, (Below.heap_setCell w p u b hp).trans h, hlo⟩
theorem Buf.farRow (h : Buf w b t l) {g : Nat} (hp : b ≠ g) (cs : Array Value) : Buf (w.setRow g cs) b t l := by
  obtain ⟨tail, lo, hi, h, hlo⟩ := h
  exact ⟨tail, lo, hi, (setRow_other w g b cs hp).trans h, hlo⟩
theorem Buf.set_ (h : Buf w b t l) {i : Nat} (hi : i < l.length) (x : Int) : Buf (w.setCell ⟨b, i, none⟩ (.int .u8 x)) b t (l.set i x) := by
  obtain ⟨tail, lo, hi', h, hlo⟩ := h
  refine ⟨tail, lo, hi', ?_, by simpa using hlo⟩
  unfold World.setCell
  simp only [Array.getElem?_modify, h, if_true, Option.map_some, Option.isSome_none, Bool.false_eq_true, if_false]
  congr 2
  rw [← ints_set]
  apply Array.ext_getElem?
  intro j
  simp only [Array.getElem?_setIfInBounds, Array.getElem?_append, Array.size_setIfInBounds, Array.size_append, ints_size]
  by_cases hj : i = j
  · subst hj; simp [hi]; omega
  · simp [hj]
theorem Buf.conv (h : Buf w b t l) {src e dst : TypeId} (hs : P.underlying src = some (.slice e)) (he : P.underlying e = some (.int .u8)) (hd : P.underlying dst = some .string) (n cap : Nat) (hn : l.length = n) :
    (convert src dst (.slice (some ⟨b, 0, none⟩) n cap)).run P w = .ok (.string (strOfNums l)) w := by
  refine run_convert_bytes_arg w src e hs he b 0 n cap l hn (fun i hi => ?_) dst hd
  rw [Nat.zero_add, h.at_ (by omega), ← gi_def]
theorem buf_new (w : World) (e : TypeId) (s : ByteArray) : Buf (Lib.bytesWorld w e s) w.heap.size e (nums s) := by
  refine ⟨Array.replicate (grownCap w s.size 0 e - s.size) (.int .u8 0), (Lib.bytesCells w e s).size, (Lib.bytesCells w e s).size + 1, ?_, ?_⟩
  · rw [Lib.bytesWorld_at_new]
    have h : Lib.bytesCells w e s = ints .u8 (nums s) ++ Array.replicate (grownCap w s.size 0 e - s.size) (.int .u8 0) := by
      unfold Lib.bytesCells ints nums
      congr 1
      apply Array.ext'
      simp
    rw [h]
  · simp [nums_len, Lib.bytesCells]
theorem bytesWorld_below {B : Nat} {a w : World} (h : Below B a w) (hB : B ≤ w.heap.size) (e : TypeId) (s : ByteArray) : Below B a (Lib.bytesWorld w e s) :=
  h.trans ⟨rfl, rfl, rfl, by rw [Lib.bytesWorld_size]; omega, fun k hk => Lib.bytesWorld_at_old w e s k (by omega)⟩
end
end

section
open Go.RowKit
/-- The slice value v holds these bytes, in a row of the call's own. -/
def OwnB (w : World) (base : Nat) (e : TypeId) (v : Value) (l : List Int) : Prop := w.ownsRow base e 1 v l.length (l.map (Value.int .u8))
section
variable {w w' : World} {base : Nat} {e : TypeId} {v : Value} {l : List Int} {P : Program}
theorem OwnB.nil (w : World) (base : Nat) (e : TypeId) : OwnB w base e (.slice none 0 0) [] := World.ownsRow_nil w base e 1
theorem OwnB.alloc (h : OwnB w base e v l) (o : Obj) : OwnB (w.alloc o) base e v l := World.ownsRow.alloc h o
theorem OwnB.drewN (h : OwnB w base e v l) (n : Nat) : OwnB (w.drewN n) base e v l := h
theorem OwnB.drew (h : OwnB w base e v l) : OwnB w.drew base e v l := h
theorem OwnB.lo (h : OwnB w base e v l) : ∀ r, v.ownBlock = some r → base ≤ r := fun r hr => (World.ownsRow.lt h r hr).1
/-- what the law on append leaves, said of the bytes -/
theorem OwnB.more {n : Nat} {news : List Int} (hn : news.length = n) (h : w.ownsRow base e 1 v (l.length + n) (l.map (Value.int .u8) ++ news.map (Value.int .u8))) : OwnB w base e v (l ++ news) := by
  unfold OwnB
  rw [List.length_append, List.map_append, hn]
  exact h
/-- what the slice holds, made a string -/
theorem OwnB.conv (h : OwnB w base e v l) {src dst : TypeId} (hs : P.underlying src = some (.slice e)) (he : P.underlying e = some (.int .u8)) (hd : P.underlying dst = some .string) :
    (convert src dst v).run P w = .ok (.string (strOfNums l)) w := by
  rcases h.2 with ⟨rfl, hl⟩ | ⟨g, cap, cur, rfl, _⟩
  · have hl' : l = [] := List.eq_nil_of_length_eq_zero hl
    rw [run_convert_bytes_nil w src e hs he 0 0 dst hd, hl']
    rfl
  · refine run_convert_bytes_arg w src e hs he g 0 l.length cap l rfl (fun i hi => ?_) dst hd
    have := World.ownsRow.cells h (g := g) rfl i (.int .u8 (l.getD i 0)) (by simp [hi])
    have ha : (⟨g, 0, none⟩ : Addr).add i = ⟨g, 0 + i, none⟩ := by unfold Addr.add; split <;> simp_all
    rwa [ha] at this
/-- A row below what the call owns stays as it was when the slice grows. -/
theorem Row.grew {b : Nat} {t : TypeId} {k : IntKind} {o : List Int} (h : Row w b t k o) {row : Option Nat} (hg : w.grownBy w' row) (hr : ∀ r, row = some r → base ≤ r) (hb : b < base) : Row w' b t k o :=
  (hg.block b h.lt (fun e => by have := hr b e.symm; omega)).trans h
end
end
end Go.Proofs.Ytjfjakighnibpaa.St
