/-
  StreamBlocks, by the statement's text: each block is the reference's, or the refusal.
-/
import Derived.Test.YtocademajjkecaaRefBlock
import Derived.Test.YtocademajjkecaaBack
import Derived.BigFrame
namespace Go.Proofs.Ytocademajjkecaa
open Go.RowKit
/-- the load of a whole row, at an operation that is guarded and wanted -/
theorem wpList_load_row_w {P : Program} {ops : Array Oper} {rest : List Oper} {o : Oper} {a : Act} {w : World} {Q : Exit → Act → World → Prop} (hw : Region.wanted o (yielded ops a.tmps) = true) (ty : TypeId) (x : Operand) (ho : o.op = .load ty x)
    (g : Nat) (hx : a.eval x = .pointer (some ⟨g, 0, none⟩)) (t : TypeId) (cs : Array Value) (fr : Nat × Nat) (d : TypeDesc) (hg : w.heap[g]? = some (.cells cs t fr))
    (hu : P.underlying ty = some d) (hd : (match d with | .struct _ | .array _ _ => true | _ => false) = true) (hi : (P.info? ty).map (·.size) = some cs.size)
    (h : wpList P ops Q rest (a.put o.dst (.agg cs)) w) : wpList P ops Q (o :: rest) a w :=
  BigFrame.wpList_want hw fun _ hK => wp_load_row ty x ho g hx t cs fr d hg hu hd hi (hK _ _ h)
set_option maxRecDepth 100000 in
set_option maxHeartbeats 400000 in
theorem blocks_yes (kb : List Int) (hk : kb.length = 32) (hkb : Bytes kb) (s : ByteArray) (hs : s.size = 12) (ct : Int) (w : World) :
    Calls Try.prog 3 #[.agg (ints .u8 kb), .string s, .int .u32 ct] w fun e w' => e = .returned (.bool true) ∧ Below w.heap.size w w' := by
  have A := hide alive_any
  have S := hide (KB.start w kb)
  have K23 : Hid ((Try.prog.info? 23).map (·.size) = some (ints .u8 kb).size) := by show _ = _; rw [ints_size, hk]; kernel_rfl
  have M := hide (block_any kb hk hkb s hs ct)
  have M2 := hide (refblock_any kb hk hkb s hs ct)
  generalize strOfNums (mixF (beginF kb s ct)) = out at M M2
  have h2 : (s.size : Int) = 12 := by omega
  clear hk hs
  go_enter Try.func3, Try.ntmps3
  go_wp2_with fail
  refine (A.out _).mono ?_
  rintro e w1 ⟨rfl, hb1⟩
  have K1 := hide (S.out.next hb1)
  clear hb1 S
  have R1 := hide K1.out.row
  go_wp2_with (refine wpList_load_row rfl 23 _ rfl _ rfl 23 (ints .u8 kb) (0, 0) _ R1.out Try.underlying23 rfl K23.out ?_)
  refine (M.out _).mono ?_
  rintro e w2 ⟨rfl, hb2⟩
  have K2 := hide (K1.out.next hb2)
  clear hb2 K1 R1
  go_wp2_with fail
  refine (A.out _).mono ?_
  rintro e w3 ⟨rfl, hb3⟩
  have K3 := hide (K2.out.next hb3)
  clear hb3 K2
  have R3 := hide K3.out.row
  go_wp2_with (refine wpList_load_row_w (by rfl) 23 _ rfl _ rfl 23 (ints .u8 kb) (0, 0) _ R3.out Try.underlying23 rfl K23.out ?_)
  refine (M2.out _).mono ?_
  rintro e w4 ⟨rfl, hb4⟩
  have K4 := hide (K3.out.next hb4)
  clear hb4 K3 R3
  go_wp2
  go_ret
  exact ⟨rfl, K4.out.below⟩
set_option maxRecDepth 100000 in
set_option maxHeartbeats 400000 in
theorem blocks_no (kb : List Int) (hk : kb.length = 32) (s : ByteArray) (hs : s.size ≠ 12) (ct : Int) (w : World) :
    Calls Try.prog 3 #[.agg (ints .u8 kb), .string s, .int .u32 ct] w fun e w' => e = .returned (.bool true) ∧ Below w.heap.size w w' := by
  have A := hide alive_any
  have S := hide (KB.start w kb)
  have K23 : Hid ((Try.prog.info? 23).map (·.size) = some (ints .u8 kb).size) := by show _ = _; rw [ints_size, hk]; kernel_rfl
  have M := hide (block_no kb s hs ct)
  have h2 : ((s.size : Int) == 12) = false := by simp; omega
  clear hk hs
  go_enter Try.func3, Try.ntmps3
  go_wp2_with fail
  refine (A.out _).mono ?_
  rintro e w1 ⟨rfl, hb1⟩
  have K1 := hide (S.out.next hb1)
  clear hb1 S
  have R1 := hide K1.out.row
  go_wp2_with (refine wpList_load_row rfl 23 _ rfl _ rfl 23 (ints .u8 kb) (0, 0) _ R1.out Try.underlying23 rfl K23.out ?_)
  refine (M.out _).mono ?_
  rintro e w2 ⟨rfl, hb2⟩
  have K2 := hide (K1.out.next hb2)
  clear hb2 K1 R1
  go_wp2_with fail
  refine (A.out _).mono ?_
  rintro e w3 ⟨rfl, hb3⟩
  have K3 := hide (K2.out.next hb3)
  clear hb3 K2
  go_wp2
  go_ret
  exact ⟨rfl, K3.out.below⟩
theorem blocks_law (kb : List Int) (hk : kb.length = 32) (hkb : Bytes kb) (s : ByteArray) (ct : Int) (w : World) :
    Calls Try.prog 3 #[.agg (ints .u8 kb), .string s, .int .u32 ct] w fun e w' => e = .returned (.bool true) ∧ Below w.heap.size w w' := by
  by_cases hs : s.size = 12
  · exact blocks_yes kb hk hkb s hs ct w
  · exact blocks_no kb hk s hs ct w
end Go.Proofs.Ytocademajjkecaa
