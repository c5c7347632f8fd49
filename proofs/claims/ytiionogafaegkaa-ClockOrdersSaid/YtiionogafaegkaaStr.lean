/-
  Strings: a byte at a place behind a name that the walk does not open. Plain lemmas, over any program.
-/
import Derived.Test.YtiionogafaegkaaRow
import Derived.Laws.BytesArg
namespace Go.Proofs.Ytiionogafaegkaa
open Go.RowKit

/-- The byte of a string at a place, as a number. -/
def gb (s : ByteArray) (i : Nat) : Int := ((s.data.toList.getD i 0).toNat : Int)
theorem gb_bd (s : ByteArray) (i : Nat) : 0 ≤ gb s i ∧ gb s i ≤ 255 := by
  unfold gb
  have := (s.data.toList.getD i 0).toNat_lt
  omega
theorem gb_at (s : ByteArray) (i : Nat) (h : i < s.size) : gb s i = (s[i].toNat : Int) := by
  unfold gb
  have h' : i < s.data.toList.length := by simpa using h
  rw [List.getD_eq_getElem?_getD, List.getElem?_eq_getElem h']
  simp [ByteArray.getElem_eq_getElem_data]
theorem gb_extract (s : ByteArray) (a e i : Nat) (h : a + i < e) (he : e ≤ s.size) : gb (s.extract a e) i = gb s (a + i) := by
  have h1 : i < (s.extract a e).size := by rw [ByteArray.size_extract]; omega
  rw [gb_at _ _ h1, gb_at s (a + i) (by omega)]
  simp [ByteArray.getElem_extract]

section
variable {P : Program}
theorem index_str (w : World) (t : TypeId) (kj : IntKind) (s : ByteArray) (i : Nat) (ht : P.underlying t = some .string) (hi : i < s.size) :
    (Instr.index t (.string s) (.int kj (i : Int))).run P w = .ok (.int .u8 (gb s i)) w := by
  have h0 : 0 ≤ (i : Int) := by omega
  simp [Instr.index, asIntOf, run_underlying ht, h0, hi, gb_at s i hi]

/-- A part of an array variable, as a slice. -/
theorem slice_row (w : World) (t e : TypeId) (n : Nat) (info : TypeInfo) (ht : P.underlying t = some (.array n e)) (hs : P.info? e = some info) (h1 : info.size = 1)
    (kl kh : IntKind) (b lo hi : Nat) (x y : Int) (hx : x = lo) (hy : y = hi) (hlh : lo ≤ hi) (hhn : hi ≤ n) (hln : lo < n) :
    (Instr.sliceAt t (.pointer (some ⟨b, 0, none⟩)) (some (.int kl x)) (some (.int kh y)) none).run P w = .ok (.slice (some ⟨b, lo, none⟩) (hi - lo) (n - lo)) w := by
  subst hx hy
  have hlen : P.arrayLen t = n := by simp [Program.arrayLen, ht]
  have hel : P.elem t = e := by simp [Program.elem, ht]
  have hu : P.underlying t = some (.array (P.arrayLen t) (P.elem t)) := by rw [hlen, hel]; exact ht
  rw [run_sliceAt_array_lh w t ⟨b, 0, none⟩ hu kl kh lo hi (by omega) (by omega) (by omega)]
  simp only [sizeOf, typeInfo, hel, Sem.run_bind, run_program, hs, Result.andThen_ok, Sem.run_pure, h1, hlen, slicedAt, Int.toNat_natCast]
  rw [if_neg (by omega)]
  congr 3
  unfold Addr.add
  split <;> simp_all
theorem slice_all (w : World) (t e : TypeId) (n : Nat) (info : TypeInfo) (ht : P.underlying t = some (.array n e)) (hs : P.info? e = some info) (h1 : info.size = 1) (b : Nat) (hn : 0 < n) :
    (Instr.sliceAt t (.pointer (some ⟨b, 0, none⟩)) none none none).run P w = .ok (.slice (some ⟨b, 0, none⟩) n n) w := by
  have hlen : P.arrayLen t = n := by simp [Program.arrayLen, ht]
  have hel : P.elem t = e := by simp [Program.elem, ht]
  have hu : P.underlying t = some (.array (P.arrayLen t) (P.elem t)) := by rw [hlen, hel]; exact ht
  rw [run_sliceAt_array_all w t ⟨b, 0, none⟩ hu]
  simp only [sizeOf, typeInfo, hel, Sem.run_bind, run_program, hs, Result.andThen_ok, Sem.run_pure, h1, hlen, slicedAt]
  rw [if_neg (by omega)]
  simp [Addr.add]

/-- A part of a row of bytes, made a string. -/
def part (l : List Int) (off len : Nat) : List Int := (l.drop off).take len
theorem part_len (l : List Int) (off len : Nat) (h : off + len ≤ l.length) : (part l off len).length = len := by simp [part]; omega
theorem gi_part (l : List Int) (off len i : Nat) (h : i < len) : gi (part l off len) i = gi l (off + i) := by
  unfold gi part
  simp only [List.getD_eq_getElem?_getD]
  rw [List.getElem?_take_of_lt h, List.getElem?_drop]
theorem conv_row (w : World) {b : Nat} {t src e dst : TypeId} {l : List Int} (hr : Row w b t .u8 l) (hs : P.underlying src = some (.slice e)) (he : P.underlying e = some (.int .u8)) (hd : P.underlying dst = some .string) (off len cap : Nat) (h : off + len ≤ l.length) :
    (convert src dst (.slice (some ⟨b, off, none⟩) len cap)).run P w = .ok (.string (strOfNums (part l off len))) w := by
  refine run_convert_bytes_arg w src e hs he b off len cap (part l off len) (part_len l off len h) (fun i hi => ?_) dst hd
  rw [hr.at_ (by omega), ← gi_def, gi_part l off len i hi]
theorem part_all (l : List Int) (n : Nat) (h : l.length = n) : part l 0 n = l := by simp [part, ← h]
theorem conv_all (w : World) {b : Nat} {t src e dst : TypeId} {l : List Int} (hr : Row w b t .u8 l) (hs : P.underlying src = some (.slice e)) (he : P.underlying e = some (.int .u8)) (hd : P.underlying dst = some .string) (n cap : Nat) (h : l.length = n) :
    (convert src dst (.slice (some ⟨b, 0, none⟩) n cap)).run P w = .ok (.string (strOfNums l)) w := by
  have := conv_row w hr hs he hd 0 n cap (by omega)
  rwa [part_all l n h] at this
/-- Each number of a list is a byte. -/
def Bytes (l : List Int) : Prop := ∀ i, i < l.length → 0 ≤ gi l i ∧ gi l i ≤ 255
theorem snum_size (l : List Int) : (strOfNums l).size = l.length := by simp [strOfNums, ByteArray.size]
theorem gb_nums (l : List Int) (hl : Bytes l) (i : Nat) (hi : i < l.length) : gb (strOfNums l) i = gi l i := by
  have h := hl i hi
  unfold gb strOfNums
  have e : gi l i = l[i] := by simp [gi, hi]
  rw [e] at h
  simp [hi, e]
  omega
theorem bytes_part {l : List Int} (hl : Bytes l) (off len : Nat) (h : off + len ≤ l.length) : Bytes (part l off len) := by
  intro i hi
  rw [part_len l off len h] at hi
  rw [gi_part l off len i hi]
  exact hl _ (by omega)
theorem bytes_set {l : List Int} (hl : Bytes l) (i : Nat) (x : Int) (hx : 0 ≤ x ∧ x ≤ 255) : Bytes (l.set i x) := by
  intro j hj
  simp only [List.length_set] at hj
  by_cases e : i = j
  · subst e; rw [gi_set_same l i x hj]; exact hx
  · rw [gi_set_other l i j x e]; exact hl j hj
end
end Go.Proofs.Ytiionogafaegkaa
