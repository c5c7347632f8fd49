/-
  Tests that hold by arithmetic, as conditional equations: the walk's simp shows their conditions by omega. And the blocks' equations, conditional likewise.
-/
import Derived.Test.YtjfhdckcjkgjnaaDoorXm
import Derived.Test.YtjfhdckcjkgjnaaDoorXd
namespace Go.Proofs.YtjfhdckcjkgjnaaDoor
open Go Go.RowKit

theorem ltT {a b : Int} (h : a < b) : (a < b) = True := eq_true h
theorem ltF {a b : Int} (h : b ≤ a) : (a < b) = False := eq_false (by omega)
theorem leT {a b : Int} (h : a ≤ b) : (a ≤ b) = True := eq_true h
theorem leF {a b : Int} (h : b < a) : (a ≤ b) = False := eq_false (by omega)
theorem eqT {a b : Int} (h : a = b) : (a = b) = True := eq_true h
theorem eqF {a b : Int} (h : a ≠ b) : (a = b) = False := eq_false h
theorem ltTn {a b : Nat} (h : a < b) : (a < b) = True := eq_true h
theorem ltFn {a b : Nat} (h : b ≤ a) : (a < b) = False := eq_false (by omega)
theorem leTn {a b : Nat} (h : a ≤ b) : (a ≤ b) = True := eq_true h
theorem leFn {a b : Nat} (h : b < a) : (a ≤ b) = False := eq_false (by omega)
theorem eqTn {a b : Nat} (h : a = b) : (a = b) = True := eq_true h
theorem eqFn {a b : Nat} (h : a ≠ b) : (a = b) = False := eq_false h
theorem beqT {a b : Int} (h : a = b) : (a == b) = true := by simpa using h
theorem beqF {a b : Int} (h : a ≠ b) : (a == b) = false := by simpa using h
theorem bneT {a b : Int} (h : a ≠ b) : (a != b) = true := by simpa using h
theorem bneF {a b : Int} (h : a = b) : (a != b) = false := by simpa using h
theorem wi64 {x : Int} (h : -9223372036854775808 ≤ x ∧ x ≤ 9223372036854775807) : IntKind.i64.wrap x = x := wrap64_in h
theorem wu64 {x : Int} (h : 0 ≤ x ∧ x ≤ 18446744073709551615) : IntKind.u64.wrap x = x := by simp only [IntKind.wrap, IntKind.bits, IntKind.signed]; simp; omega
theorem wu32 {x : Int} (h : 0 ≤ x ∧ x ≤ 4294967295) : IntKind.u32.wrap x = x := by simp only [IntKind.wrap, IntKind.bits, IntKind.signed]; simp; omega
theorem wu16 {x : Int} (h : 0 ≤ x ∧ x ≤ 65535) : IntKind.u16.wrap x = x := by simp only [IntKind.wrap, IntKind.bits, IntKind.signed]; simp; omega
theorem wu8 {x : Int} (h : 0 ≤ x ∧ x ≤ 255) : IntKind.u8.wrap x = x := by simp only [IntKind.wrap, IntKind.bits, IntKind.signed]; simp; omega
theorem tmodP {a b : Int} (h : 0 ≤ a) : a.tmod b = a % b := Int.tmod_eq_emod_of_nonneg h
theorem tdivP {a b : Int} (h : 0 ≤ a) : a.tdiv b = a / b := Int.tdiv_eq_ediv_of_nonneg h
theorem fdivP {a b : Int} (h : 0 ≤ b) : a.fdiv b = a / b := Int.fdiv_eq_ediv_of_nonneg a h
theorem hgetL {H L : AH} {i : Nat} (h : i < H.length) : hget (H ++ L) i = hget H i := hget_left h
theorem hgetNe {H : AH} {i j : Nat} {x : Option Blk} (h : i ≠ j) : hget (H.set i x) j = hget H j := hget_set_ne h
theorem hgetEq {H : AH} {i : Nat} {x : Option Blk} (h : i < H.length) : hget (H.set i x) i = x := hget_set_eq h
theorem setL {H L : AH} {i : Nat} {x : Option Blk} (h : i < H.length) : (H ++ L).set i x = H.set i x ++ L := List.set_append_left _ _ h
theorem hset_self {H : AH} {b : Nat} {k : Blk} (h : hget H b = some k) : H.set b (some k) = H := by
  have h2 := hget_some h
  apply List.ext_getElem?
  intro i
  rw [List.getElem?_set]
  split
  · rename_i e; subst e
    split
    · exact h2.symm
    · rename_i hlt; rw [List.getElem?_eq_none (by omega)] at h2; cases h2
  · rfl
theorem iv_getN (k : IntKind) (l : List Int) (i : Nat) (h : i < l.length) : (iv k l)[i]? = some (.int k (l.getD i 0)) := iv_get k l i h
theorem nums_def (s : ByteArray) : (s.data.toList.map fun b => (b.toNat : Int)) = nums s := rfl
theorem nums_len (s : ByteArray) : (nums s).length = s.size := by unfold nums; simp
theorem nums_bd (s : ByteArray) : ∀ x ∈ nums s, 0 ≤ x ∧ x ≤ 255 := by
  intro x hx
  unfold nums at hx
  obtain ⟨b, _, rfl⟩ := List.mem_map.1 hx
  have := b.toNat_lt
  omega
theorem agB : isAggD .bool = false := rfl
theorem agI (k : IntKind) : isAggD (.int k) = false := rfl
theorem agS : isAggD .string = false := rfl
theorem agP (t : TypeId) : isAggD (.pointer t) = false := rfl
theorem agL (t : TypeId) : isAggD (.slice t) = false := rfl
theorem agA (n : Nat) (t : TypeId) : isAggD (.array n t) = true := rfl
theorem okB : okD .bool = true := rfl
theorem okI (k : IntKind) : okD (.int k) = true := rfl
theorem okS : okD .string = true := rfl
theorem okP (t : TypeId) : okD (.pointer t) = true := rfl
theorem okSl (t : TypeId) : okD (.slice t) = true := rfl
theorem okA (n : Nat) (t : TypeId) : okD (.array n t) = true := rfl
/-- Bytes. -/
def By (l : List Int) : Prop := ∀ x ∈ l, 0 ≤ x ∧ x ≤ 255
theorem nums_of (l : List Int) (h : By l) : nums (strOfNums l) = l := by
  unfold nums
  rw [strOfNums_data, List.map_map]
  refine (List.map_congr_left fun x hx => ?_).trans (List.map_id' l)
  have := h x hx
  simp only [Function.comp_apply]
  rw [UInt8.toNat_ofNat']
  omega
theorem of_nums' (s : ByteArray) : strOfNums (nums s) = s := by
  unfold nums strOfNums
  rw [List.map_map]
  have : (fun n : Int => UInt8.ofNat n.toNat) ∘ (fun b : UInt8 => (b.toNat : Int)) = id := by
    funext b
    simp
  rw [this, List.map_id]
theorem by_u8 (x : Int) : 0 ≤ IntKind.u8.wrap x ∧ IntKind.u8.wrap x ≤ 255 := by simp only [IntKind.wrap, IntKind.bits, IntKind.signed]; simp; omega
theorem By.app {l r : List Int} (h : By l) (k : By r) : By (l ++ r) := fun x hx => by
  rcases List.mem_append.1 hx with g | g
  · exact h x g
  · exact k x g
theorem By.cons {x : Int} {l : List Int} (h : 0 ≤ x ∧ x ≤ 255) (k : By l) : By (x :: l) := fun y hy => by
  rcases List.mem_cons.1 hy with rfl | g
  · exact h
  · exact k y g
theorem By.nil : By [] := fun x hx => by cases hx
theorem By.get {l : List Int} (h : By l) (p : Nat) : 0 ≤ l.getD p 0 ∧ l.getD p 0 ≤ 255 := by
  rw [List.getD_eq_getElem?_getD]
  cases hq : l[p]? with
  | none => simp
  | some x => simpa using h x (List.mem_of_getElem? hq)
end Go.Proofs.YtjfhdckcjkgjnaaDoor
