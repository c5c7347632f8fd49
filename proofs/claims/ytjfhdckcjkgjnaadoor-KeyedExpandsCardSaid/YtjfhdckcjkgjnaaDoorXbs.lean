/-
  Byte strings as lists of numbers: parts, bytes, sameness. Over any program.
-/
import Derived.Test.YtjfhdckcjkgjnaaDoorXz
namespace Go.Proofs.YtjfhdckcjkgjnaaDoor
open Go Go.RowKit
set_option linter.unusedVariables false
set_option linter.unusedSimpArgs false
theorem sn_size (l : List Int) : (strOfNums l).size = l.length := by simp [strOfNums, ByteArray.size]
theorem sn_app (a b : List Int) : strOfNums a ++ strOfNums b = strOfNums (a ++ b) := by
  apply ByteArray.ext
  apply Array.toList_inj.1
  simp [strOfNums, ByteArray.data_append]
theorem sn_nil0 : strOfNums [] = { data := #[] } := rfl
theorem sn_tl (l : List Int) : (strOfNums l).toList = l.map fun n => UInt8.ofNat n.toNat := by
  rw [ByteArray.toList_eq]; rfl
theorem sn_tnil (l : List Int) : ((strOfNums l).toList = []) = (l = []) := by
  rw [sn_tl]
  cases l <;> simp
theorem sn_eq {a b : List Int} (ha : By a) (hb : By b) : (strOfNums a).toList = (strOfNums b).toList ↔ a = b := by
  constructor
  · intro h
    rw [ByteArray.toList_eq, ByteArray.toList_eq] at h
    have h2 : strOfNums a = strOfNums b := ByteArray.ext (Array.toList_inj.1 h)
    rw [← nums_of a ha, h2, nums_of b hb]
  · rintro rfl; rfl
theorem sn_inj {a b : List Int} (ha : By a) (hb : By b) (h : strOfNums a = strOfNums b) : a = b := by
  rw [← nums_of a ha, h, nums_of b hb]
theorem gb_sn {l : List Int} (h : By l) (i : Nat) : gb (strOfNums l) i = l.getD i 0 := by
  unfold gb
  rw [strOfNums_data, List.getD_eq_getElem?_getD, List.getD_eq_getElem?_getD, List.getElem?_map]
  cases hq : l[i]? with
  | none => rfl
  | some x =>
    have := h x (List.mem_of_getElem? hq)
    simp only [Option.map_some, Option.getD_some, UInt8.toNat_ofNat']
    omega
theorem gb_get {l : List Int} (h : By l) {i : Nat} {c : Int} (hc : l[i]? = some c) : gb (strOfNums l) i = c := by
  rw [gb_sn h, List.getD_eq_getElem?_getD, hc]; rfl
theorem ex_range (l : List Int) (i j : Nat) : (strOfNums l).extract i j = strOfNums ((l.take j).drop i) := by
  apply ByteArray.ext
  rw [ByteArray.data_extract]
  apply Array.toList_inj.1
  rw [Array.toList_extract, strOfNums_data, strOfNums_data, List.map_drop, List.map_take, List.drop_take]
theorem ex_drop (l : List Int) (i : Nat) : (strOfNums l).extract i l.length = strOfNums (l.drop i) := by
  rw [ex_range, List.take_length]
theorem ex_take (l : List Int) (n : Nat) : (strOfNums l).extract 0 n = strOfNums (l.take n) := by
  rw [ex_range, List.drop_zero]
theorem By.drop {l : List Int} (h : By l) (n : Nat) : By (l.drop n) := fun x hx => h x (List.mem_of_mem_drop hx)
theorem By.take {l : List Int} (h : By l) (n : Nat) : By (l.take n) := fun x hx => h x (List.mem_of_mem_take hx)
theorem By.app_r {a b : List Int} (h : By (a ++ b)) : By b := fun y hy => h y (List.mem_append_right _ hy)
theorem By.app_l {a b : List Int} (h : By (a ++ b)) : By a := fun y hy => h y (List.mem_append_left _ hy)
end Go.Proofs.YtjfhdckcjkgjnaaDoor
