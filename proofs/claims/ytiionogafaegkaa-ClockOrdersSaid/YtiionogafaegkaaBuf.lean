/-
  A slice's bytes at the head of a block of the call's own, with whatever stands behind them: what a conversion of a string lays. Plain lemmas, over any program.
-/
import Derived.Test.YtiionogafaegkaaStr
import Derived.Lib.ConvBytes
namespace Go.Proofs.Ytiionogafaegkaa
open Go.RowKit

/-- Block b begins with these bytes, none of them frozen. -/
def Buf (w : World) (b : Nat) (t : TypeId) (l : List Int) : Prop := ∃ tail lo hi, w.heap[b]? = some (.cells (ints .u8 l ++ tail) t (lo, hi)) ∧ l.length ≤ lo

/-- A string's bytes as numbers. -/
def nums (s : ByteArray) : List Int := s.data.toList.map fun b => (b.toNat : Int)
theorem nums_len (s : ByteArray) : (nums s).length = s.size := by simp [nums]
theorem gi_nums (s : ByteArray) (i : Nat) (h : i < s.size) : gi (nums s) i = gb s i := by
  have h' : i < s.data.toList.length := by simpa using h
  unfold gi gb nums
  rw [List.getD_eq_getElem?_getD, List.getD_eq_getElem?_getD, List.getElem?_map, List.getElem?_eq_getElem h']
  rfl
theorem nums_bytes (s : ByteArray) : Bytes (nums s) := by
  intro i hi
  rw [nums_len] at hi
  rw [gi_nums s i hi]
  exact gb_bd s i
theorem nums_of (l : List Int) (hl : Bytes l) : nums (strOfNums l) = l := by
  apply list_ext_gi
  · rw [nums_len, snum_size]
  · intro i hi
    rw [nums_len, snum_size] at hi
    rw [gi_nums _ _ (by rw [snum_size]; exact hi), gb_nums l hl i hi]
theorem of_nums (s : ByteArray) : strOfNums (nums s) = s := by
  have h : (nums s).map (fun n => UInt8.ofNat n.toNat) = s.data.toList := by
    unfold nums
    rw [List.map_map]
    exact (List.map_congr_left fun b _ => by simp).trans (List.map_id _)
  unfold strOfNums
  rw [h]

section
variable {w w' : World} {b : Nat} {t : TypeId} {l : List Int} {P : Program}
theorem Buf.lt (h : Buf w b t l) : b < w.heap.size := by
  obtain ⟨tail, lo, hi, h, _⟩ := h
  rcases Nat.lt_or_ge b w.heap.size with hlt | hge
  · exact hlt
  · rw [Array.getElem?_eq_none hge] at h; cases h
theorem Buf.at_ (h : Buf w b t l) {i : Nat} (hi : i < l.length) : w.cell? ⟨b, i, none⟩ = some (.int .u8 (gi l i)) := by
  obtain ⟨tail, lo, hi', h, _⟩ := h
  rw [cell_of_row w b i _ t _ h, Array.getElem?_append_left (by rw [ints_size]; exact hi)]
  exact ints_at .u8 l i hi
theorem Buf.free (h : Buf w b t l) {i : Nat} (hi : i < l.length) : w.frozen? ⟨b, i, none⟩ = false := by
  obtain ⟨tail, lo, hi', h, hlo⟩ := h
  simp [World.frozen?, h]
  intro h1
  omega
theorem Buf.away (h : Buf w b t l) {g : Nat} (hg : w.grownBy w' (some g)) (hne : b ≠ g) : Buf w' b t l := by
  have hb := h.lt
  obtain ⟨tail, lo, hi, h, hlo⟩ := h
  exact ⟨tail, lo, hi, (hg.block b hb (fun e => hne (by injection e))).trans h, hlo⟩
theorem Buf.below {B : Nat} (h : Buf w b t l) (hb : Below B w w') (hg : b < B) : Buf w' b t l := by
  obtain ⟨tail, lo, hi, h, hlo⟩ := h
  exact ⟨tail, lo, hi, (hb.block b hg).trans h, hlo⟩
theorem Buf.alloc (h : Buf w b t l) (o : Obj) : Buf (w.alloc o) b t l := h.below (B := w.heap.size) ((Below.refl _ _).alloc (Nat.le_refl _) o) h.lt
theorem Buf.drew (h : Buf w b t l) : Buf w.drew b t l := h
theorem Buf.drewN (h : Buf w b t l) (n : Nat) : Buf (w.drewN n) b t l := h
theorem Buf.far (h : Buf w b t l) {p : Addr} (hp : b ≠ p.block) (u : Value) : Buf (w.setCell p u) b t l := by
  obtain ⟨tail, lo, hi, h, hlo⟩ := h
  exact ⟨tail, lo, hi, (Below.heap_setCell w p u b hp).trans h, hlo⟩
theorem Buf.farRow (h : Buf w b t l) {g : Nat} (hp : b ≠ g) (cs : Array Value) : Buf (w.setRow g cs) b t l := by
  obtain ⟨tail, lo, hi, h, hlo⟩ := h
  exact ⟨tail, lo, hi, (setRow_other w g b cs hp).trans h, hlo⟩
theorem Buf.set_ (h : Buf w b t l) {i : Nat} (hi : i < l.length) (x : Int) : Buf (w.setCell ⟨b, i, none⟩ (.int .u8 x)) b t (l.set i x) := by
  obtain ⟨tail, lo, hi', h, hlo⟩ := h
  refine ⟨tail, lo, hi', ?_, by simpa using hlo⟩
  unfold World.setCell
  simp only [Array.getElem?_modify, h, if_true, Option.map_some, Option.isSome_none, Bool.false_eq_true, if_false]
  congr 2
  rw [← ints_set]
  apply Array.ext_getElem?
  intro j
  simp only [Array.getElem?_setIfInBounds, Array.getElem?_append, Array.size_setIfInBounds, Array.size_append, ints_size]
  by_cases hj : i = j
  · subst hj; simp [hi]; omega
  · simp [hj]
theorem Buf.conv (h : Buf w b t l) {src e dst : TypeId} (hs : P.underlying src = some (.slice e)) (he : P.underlying e = some (.int .u8)) (hd : P.underlying dst = some .string) (n cap : Nat) (hn : l.length = n) :
    (convert src dst (.slice (some ⟨b, 0, none⟩) n cap)).run P w = .ok (.string (strOfNums l)) w := by
  refine run_convert_bytes_arg w src e hs he b 0 n cap l hn (fun i hi => ?_) dst hd
  rw [Nat.zero_add, h.at_ (by omega), ← gi_def]
theorem buf_new (w : World) (e : TypeId) (s : ByteArray) : Buf (Lib.bytesWorld w e s) w.heap.size e (nums s) := by
  refine ⟨Array.replicate (grownCap w s.size 0 e - s.size) (.int .u8 0), (Lib.bytesCells w e s).size, (Lib.bytesCells w e s).size + 1, ?_, ?_⟩
  · rw [Lib.bytesWorld_at_new]
    have h : Lib.bytesCells w e s = ints .u8 (nums s) ++ Array.replicate (grownCap w s.size 0 e - s.size) (.int .u8 0) := by
      unfold Lib.bytesCells ints nums
      congr 1
      apply Array.ext'
      simp
    rw [h]
  · simp [nums_len, Lib.bytesCells]
theorem bytesWorld_below {B : Nat} {a w : World} (h : Below B a w) (hB : B ≤ w.heap.size) (e : TypeId) (s : ByteArray) : Below B a (Lib.bytesWorld w e s) :=
  h.trans ⟨rfl, rfl, rfl, by rw [Lib.bytesWorld_size]; omega, fun k hk => Lib.bytesWorld_at_old w e s k (by omega)⟩
end
end Go.Proofs.Ytiionogafaegkaa
