/-
  Block of the stream, by its text.
-/
import Derived.Test.YtocademajjkecaaBegin
namespace Go.Proofs.Ytocademajjkecaa
open Go.RowKit
theorem mixF_len (l : List Int) : (mixF l).length = 64 := outTo_len _ _ _
theorem beginF_len (kb : List Int) (s : ByteArray) (ct : Int) : (beginF kb s ct).length = 16 := by rw [beginF, begN_len, List.length_set, begK_len]
theorem all_slice (b : Nat) (W : World) : (Instr.sliceAt 41 (.pointer (some ⟨b, 0, none⟩)) none none none).run Try.prog W = .ok (.slice (some ⟨b, 0, none⟩) 64 64) W := by
  obtain ⟨i, hi, h1⟩ : ∃ i, Try.prog.info? 5 = some i ∧ i.size = 1 := ⟨_, rfl, by kernel_rfl⟩
  exact slice_all W 41 5 64 i Try.underlying41 hi h1 b (by omega)
set_option maxRecDepth 100000 in
set_option maxHeartbeats 600000 in
theorem block_any (kb : List Int) (hk : kb.length = 32) (hkb : Bytes kb) (s : ByteArray) (hs : s.size = 12) (ct : Int) (w : World) :
    Calls Try.prog 9 #[.agg (ints .u8 kb), .string s, .int .u32 ct] w fun e w' => e = .returned (.tuple #[.string (strOfNums (mixF (beginF kb s ct))), .int .i64 0]) ∧ Below w.heap.size w w' := by
  have B := hide (begin_any kb hk hkb s hs ct)
  have M := hide (mixed_any (beginF kb s ct) (beginF_len _ _ _))
  obtain ⟨o, ho⟩ : ∃ o, o = mixF (beginF kb s ct) := ⟨_, rfl⟩
  have ol : o.length = 64 := by rw [ho, mixF_len]
  rw [← ho] at M ⊢
  have I41 := hide (sz41 o ol)
  have K23 : Hid ((Try.prog.info? 23).map (·.size) = some (ints .u8 kb).size) := by show _ = _; rw [ints_size, hk]; kernel_rfl
  have Z41 : Hid ((ints .u8 (zeros 64)).size = (ints .u8 o).size) := by show _ = _; rw [ints_size, ints_size, ol]; rfl
  have hr0 : Row (w.alloc (.cells (ints .u8 kb) 23)) w.heap.size 23 .u8 kb := Row.new _ _ _ _
  have HR0 := hide hr0
  have OL := hide ol
  have hs' : (s.size : Int) = 12 := by omega
  clear ho ol hk hr0 hs
  go_enter Try.func9, Try.ntmps9
  go_wp2_with (first | (refine wpList_load_row rfl 23 _ rfl _ rfl 23 (ints .u8 kb) (0, 0) _ HR0.out Try.underlying23 rfl K23.out ?_))
  refine (B.out _).mono ?_
  rintro e W1 ⟨rfl, hb1⟩
  go_wp2_with fail
  refine (M.out _).mono ?_
  rintro e W2 ⟨rfl, hb2⟩
  have hB : Below w.heap.size w W2 := (((Below.refl _ _).alloc (Nat.le_refl _) _).trans (hb1.mono (by simp))).trans (hb2.mono (by have := hb1.size; simp at this; omega))
  clear hb1 hb2
  have sl : ∀ W : World, (Instr.sliceAt 41 (.pointer (some ⟨W2.heap.size, 0, none⟩)) none none none).run Try.prog W = .ok (.slice (some ⟨W2.heap.size, 0, none⟩) 64 64) W := fun W => all_slice W2.heap.size W
  have cv : ∀ cs : Array Value, (convert 46 9 (.slice (some ⟨W2.heap.size, 0, none⟩) 64 64)).run Try.prog ((W2.alloc (.cells cs 41)).setRow W2.heap.size (ints .u8 o)) = .ok (.string (strOfNums o)) ((W2.alloc (.cells cs 41)).setRow W2.heap.size (ints .u8 o)) := fun cs => by
    exact conv_all _ (setRow_heap (W2.alloc (.cells cs 41)) W2.heap.size _ _ 41 _ (heap_alloc_new _ _)) Try.underlying46 Try.underlying5 Try.underlying9 64 64 OL.out
  go_wp2_with (first | (refine wpList_store_row rfl 41 _ _ rfl _ (ints .u8 o) rfl rfl 41 _ (heap_alloc_new _ _) I41.out Z41.out (ints_one _ _) ?_))
  go_ret2
  exact ⟨rfl, below_setRow (hB.alloc hB.size _) hB.size _⟩

set_option maxHeartbeats 400000 in
theorem block_no (kb : List Int) (s : ByteArray) (hs : s.size ≠ 12) (ct : Int) (w : World) :
    Calls Try.prog 9 #[.agg (ints .u8 kb), .string s, .int .u32 ct] w fun e w' => e = .returned (.tuple #[.string ByteArray.empty, .int .i64 1]) ∧ Below w.heap.size w w' := by
  have hs' : ((s.size : Int) == 12) = false := by simp; omega
  clear hs
  go_enter Try.func9, Try.ntmps9
  go_wp2
  go_ret2
  exact ⟨rfl, (Below.refl _ _).alloc (Nat.le_refl _) _⟩
end Go.Proofs.Ytocademajjkecaa
