/-
  alive, by the statement text: true, in whatever world.
-/
import Derived.Test.YtocademajjkecaaBlock
namespace Go.Proofs.Ytocademajjkecaa
open Go.RowKit
def upTo : Nat → List Int
  | 0 => zeros 32
  | k + 1 => (upTo k).set k (k : Int)
def aliveNonce : ByteArray := ⟨#[0, 0, 0, 9, 0, 0, 0, 74, 0, 0, 0, 0]⟩
set_option maxRecDepth 100000 in
theorem alive_kat : (mixF (beginF (upTo 32) aliveNonce 1)).take 4 = [16, 241, 231, 228] := by decide +kernel
theorem upTo_len (k : Nat) : (upTo k).length = 32 := by
  induction k with
  | zero => rfl
  | succ k ih => simp [upTo, ih]
theorem upTo_bytes (k : Nat) (hk : k ≤ 32) : Bytes (upTo k) := by
  induction k with
  | zero =>
    intro i hi
    have : gi (upTo 0) i = 0 := by
      show (zeros 32).getD i 0 = 0
      unfold zeros
      rw [List.getD_eq_getElem?_getD, List.getElem?_replicate]
      split <;> rfl
    omega
  | succ k ih => exact bytes_set (ih (by omega)) _ _ (by omega)
structure AK (w : World) (b : Nat) (l : List Int) (W : World) : Prop where
  row : Row W b 23 .u8 l
  below : Below w.heap.size w W
  lo : w.heap.size ≤ b
set_option maxRecDepth 100000 in
set_option maxHeartbeats 600000 in
theorem alive_any (w : World) : Calls Try.prog 8 #[] w fun e w' => e = .returned (.bool true) ∧ Below w.heap.size w w' := by
  go_enter Try.func8, Try.ntmps8
  go_upto_region 2 with fail
  generalize hW : w.alloc _ = W1
  have hA : AK w w.heap.size (upTo 0) W1 := by rw [← hW]; exact ⟨heap_alloc_new _ _, (Below.refl _ _).alloc (Nat.le_refl _) _, Nat.le_refl _⟩
  clear hW
  obtain ⟨b, hb⟩ : ∃ b, b = w.heap.size := ⟨_, rfl⟩
  rw [← hb] at hA ⊢
  clear hb
  go_wp2
  go_loopw [2] (fun i W => ∃ k : Nat, k ≤ 32 ∧ i = .int .i64 k ∧ AK w b (upTo k) W) (fun i _ => 32 - (intOf i).toNat)
  case atStart => exact ⟨0, by omega, rfl, hA⟩
  case round =>
    clear hA
    obtain ⟨k, hk, rfl, hA⟩ := hrel
    by_cases hlt : k < 32
    · have c := hA.row.at_ (i := k) (by rw [upTo_len]; omega)
      have f := hA.row.free k
      have h0 : (0 : Int) ≤ k := by omega
      have h1 : (k : Int) < 32 := by omega
      have hN : AK w b (upTo (k + 1)) (wr.setCell ⟨b, k, none⟩ (.int .u8 (k : Int))) := ⟨hA.row.set_ k _, hA.below.setCell hA.lo _, hA.lo⟩
      have HN := hide hN
      clear hA hN
      go_wp2
      exact ⟨⟨k + 1, by omega, by go_num, HN.out⟩, by simp [intOf]; omega⟩
    · have hk32 : k = 32 := by omega
      rw [hk32] at hA
      clear hk32
      have K23 : Hid ((Try.prog.info? 23).map (·.size) = some (ints .u8 (upTo 32)).size) := by show _ = _; rw [ints_size, upTo_len]; kernel_rfl
      have HR := hide hA.row
      have HB := hide hA.below
      have B := hide (block_any (upTo 32) (upTo_len 32) (upTo_bytes 32 (by omega)) aliveNonce rfl 1)
      have hT := alive_kat
      have hL := mixF_len (beginF (upTo 32) aliveNonce 1)
      generalize mixF (beginF (upTo 32) aliveNonce 1) = o at B hT hL
      generalize upTo 32 = kb at *
      clear hA
      go_wp2_with (first | (refine wpList_load_row rfl 23 _ rfl _ rfl 23 (ints .u8 kb) (0, 0) _ HR.out Try.underlying23 rfl K23.out ?_))
      refine (B.out _).mono ?_
      rintro e W2 ⟨rfl, hb2⟩
      have hB := HB.out.trans (hb2.mono HB.out.size)
      clear hb2
      have z : (strOfNums o).size = 64 := by rw [snum_size, hL]
      have q : ((strOfNums o).extract 0 4).toList = [16, 241, 231, 228] := by
        have e : ((strOfNums o).extract 0 4).data.toList = (o.take 4).map fun n => UInt8.ofNat n.toNat := by
          simp [strOfNums, ByteArray.data_extract, List.map_take]
        rw [ByteArray.toList_eq, e, hT]; rfl
      have Z := hide z
      have HBB := hide hB
      have z1 : ((strOfNums o).size : Int) = 64 := by omega
      clear hT hL z hB
      go_wp2
      go_ret
      exact ⟨rfl, HBB.out⟩
end Go.Proofs.Ytocademajjkecaa
