/-
  Rows that are filled from their front. Over any program.
-/
import Derived.Test.YtjfhdckcjkgjnaaDoorXz
namespace Go.Proofs.YtjfhdckcjkgjnaaDoor
open Go Go.RowKit
/-- A row that is filled from its front. -/
theorem set_next (A : List Int) (n i : Nat) (hn : A.length = n) (hi : i < n) : (A.take i ++ zl (n - i)).set i (A.getD i 0) = A.take (i + 1) ++ zl (n - (i + 1)) := by
  have hl : (A.take i).length = i := by rw [List.length_take]; omega
  have hz : zl (n - i) = 0 :: zl (n - (i + 1)) := by
    unfold zl
    rw [show n - i = (n - (i + 1)) + 1 by omega, List.replicate_succ]
  rw [List.set_append_right _ _ (by omega), hl, Nat.sub_self, hz, List.set_cons_zero, List.take_add_one, List.getElem?_eq_getElem (by omega), List.getD_eq_getElem?_getD, List.getElem?_eq_getElem (by omega)]
  simp only [Option.toList_some, Option.getD_some, List.append_assoc, List.cons_append, List.nil_append]
theorem fill_len (A : List Int) (n i : Nat) (hn : A.length = n) (hi : i ≤ n) : (A.take i ++ zl (n - i)).length = n := by
  rw [List.length_append, List.length_take, zl_length]; omega
end Go.Proofs.YtjfhdckcjkgjnaaDoor
