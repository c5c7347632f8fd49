/-
  Data of any depth that come in (structs, arrays, slices of numbers, texts and bools, within one another): their blocks, only read. Over any program.
-/
import Derived.Test.YtgamobjfeaeddaaDoorMoB
namespace Go.Proofs.YtgamobjfeaeddaaDoor
section
open Go Go.RowKit Go.ChangeShapes Go.WideShapes Go.ChangeAt
set_option linter.unusedVariables false
set_option linter.unusedSimpArgs false

/-- A cell's datum. -/
inductive CD where
  | int (k : IntKind) (z : Int) | str (s : ByteArray) | bool (b : Bool) | sl (rows : List (List CD))
/-- A cell's kind. -/
inductive CK where
  | int (k : IntKind) | str | bool | sl (ks : List CK)
inductive CD.Ok : CK → CD → Prop
  | int {k : IntKind} {z : Int} (h : (Lit.int k z).wf = true) : CD.Ok (.int k) (.int k z)
  | str {s : ByteArray} (h : s.size ≤ maxLen) : CD.Ok .str (.str s)
  | bool {b : Bool} : CD.Ok .bool (.bool b)
  | sl {ks : List CK} {rows : List (List CD)} (h : rows.length ≤ maxLen) (hl : ∀ row ∈ rows, row.length = ks.length) (hd : ∀ row ∈ rows, ∀ (c : Nat) (k : CK) (d : CD), ks[c]? = some k → row[c]? = some d → CD.Ok k d) : CD.Ok (.sl ks) (.sl rows)
def OkL (ks : List CK) (ds : List CD) : Prop := ds.length = ks.length ∧ ∀ (c : Nat) (k : CK) (d : CD), ks[c]? = some k → ds[c]? = some d → CD.Ok k d
/-- Does this told value show it? -/
inductive CD.Val (H : AH) : CD → Value → Prop
  | int {k : IntKind} {z : Int} : CD.Val H (.int k z) (.int k z)
  | str {s : ByteArray} : CD.Val H (.str s) (.string s)
  | bool {b : Bool} : CD.Val H (.bool b) (.bool b)
  | nil {a : Option Addr} (ha : ∀ x, a = some x → x.spot = some 0) : CD.Val H (.sl []) (.slice a 0 0)
  | sl {sz j : Nat} {k : Blk} {rows : List (List CD)} (h1 : hget H j = some k) (h2 : rows.length * sz ≤ k.cells.length) (h3 : ∀ row ∈ rows, row.length = sz)
      (h4 : ∀ (i : Nat) (row : List CD) (c : Nat) (d : CD) (x : Value), rows[i]? = some row → row[c]? = some d → k.cells[i * sz + c]? = some x → CD.Val H d x) : CD.Val H (.sl rows) (.slice (some ⟨j, 0, none⟩) rows.length rows.length)
def ValL (H : AH) (ds : List CD) (us : List Value) : Prop := us.length = ds.length ∧ ∀ (c : Nat) (d : CD) (u : Value), ds[c]? = some d → us[c]? = some u → CD.Val H d u
theorem CD.Val.low {H H' : AH} {d : CD} {v : Value} (hl : ∀ j, j < H.length → hget H' j = hget H j) (h : CD.Val H d v) : CD.Val H' d v := by
  induction h with
  | int => exact .int
  | str => exact .str
  | bool => exact .bool
  | nil h => exact .nil h
  | sl h1 h2 h3 h4 ih => exact .sl (by rw [hl _ (hget_lt h1)]; exact h1) h2 h3 ih
theorem ValL.low {H H' : AH} {ds : List CD} {us : List Value} (h : ValL H ds us) (hl : ∀ j, j < H.length → hget H' j = hget H j) : ValL H' ds us :=
  ⟨h.1, fun c d u h1 h2 => (h.2 c d u h1 h2).low hl⟩
section
variable {P : Program} {W : World} {H : Type} {enc : TypeId × Value → H}
end
section
variable {P : Program} {W : World} {H : Type} {enc : TypeId × Value → H}
end
theorem ok_int {k : IntKind} {d : CD} (h : CD.Ok (.int k) d) : ∃ z, d = .int k z ∧ (Lit.int k z).wf = true := by
  cases h with
  | int h => exact ⟨_, rfl, h⟩
theorem OkL.nil {ds : List CD} (h : OkL [] ds) : ds = [] := List.eq_nil_of_length_eq_zero h.1
theorem OkL.cons {k : CK} {ks : List CK} {ds : List CD} (h : OkL (k :: ks) ds) : ∃ d r, ds = d :: r ∧ CD.Ok k d ∧ OkL ks r := by
  obtain ⟨h1, h2⟩ := h
  cases ds with
  | nil => cases h1
  | cons d r => exact ⟨d, r, rfl, h2 0 k d rfl rfl, by simpa using h1, fun c k d hk hd => h2 (c + 1) k d (by simpa using hk) (by simpa using hd)⟩
theorem OkL.split {a b : List CK} {ds : List CD} (h : OkL (a ++ b) ds) : ∃ x y, ds = x ++ y ∧ OkL a x ∧ OkL b y := by
  obtain ⟨h1, h2⟩ := h
  rw [List.length_append] at h1
  refine ⟨ds.take a.length, ds.drop a.length, (List.take_append_drop _ _).symm, ⟨by rw [List.length_take]; omega, fun c k d hk hd => ?_⟩, ⟨by rw [List.length_drop]; omega, fun c k d hk hd => ?_⟩⟩
  · have hc := (List.getElem?_eq_some_iff.1 hk).1
    rw [List.getElem?_take_of_lt hc] at hd
    exact h2 c k d (by rw [List.getElem?_append_left hc]; exact hk) hd
  · rw [List.getElem?_drop] at hd
    exact h2 (a.length + c) k d (by rw [List.getElem?_append_right (by omega), Nat.add_sub_cancel_left]; exact hk) hd
theorem OkL.ints {k : IntKind} : ∀ {n : Nat} {ds : List CD}, OkL (List.replicate n (.int k)) ds → ∃ zs : List Int, ds = zs.map (.int k) ∧ zs.length = n ∧ ∀ z ∈ zs, (Lit.int k z).wf = true
  | 0, ds, h => ⟨[], h.nil, rfl, fun z hz => by cases hz⟩
  | n + 1, ds, h => by
    rw [List.replicate_succ] at h
    obtain ⟨d, r, rfl, hd, hr⟩ := h.cons
    obtain ⟨z, rfl, hz⟩ := ok_int hd
    obtain ⟨zs, rfl, hl, hzs⟩ := OkL.ints hr
    exact ⟨z :: zs, rfl, by simp [hl], fun y hy => by
      rcases List.mem_cons.1 hy with rfl | hy
      · exact hz
      · exact hzs y hy⟩
theorem val_int {H : AH} {k : IntKind} {z : Int} {v : Value} (h : CD.Val H (.int k z) v) : v = .int k z := by cases h; rfl
theorem ValL.cons {H : AH} {d : CD} {ds : List CD} {us : List Value} (h : ValL H (d :: ds) us) : ∃ u r, us = u :: r ∧ CD.Val H d u ∧ ValL H ds r := by
  obtain ⟨h1, h2⟩ := h
  cases us with
  | nil => cases h1
  | cons u r => exact ⟨u, r, rfl, h2 0 d u rfl rfl, by simpa using h1, fun c d u hd hu => h2 (c + 1) d u (by simpa using hd) (by simpa using hu)⟩
theorem ValL.nil {H : AH} {us : List Value} (h : ValL H [] us) : us = [] := List.eq_nil_of_length_eq_zero h.1
theorem ValL.split {H : AH} {a b : List CD} {us : List Value} (h : ValL H (a ++ b) us) : ∃ x y, us = x ++ y ∧ ValL H a x ∧ ValL H b y := by
  obtain ⟨h1, h2⟩ := h
  rw [List.length_append] at h1
  refine ⟨us.take a.length, us.drop a.length, (List.take_append_drop _ _).symm, ⟨by rw [List.length_take]; omega, fun c d u hd hu => ?_⟩, ⟨by rw [List.length_drop]; omega, fun c d u hd hu => ?_⟩⟩
  · have hc := (List.getElem?_eq_some_iff.1 hd).1
    rw [List.getElem?_take_of_lt hc] at hu
    exact h2 c d u (by rw [List.getElem?_append_left hc]; exact hd) hu
  · rw [List.getElem?_drop] at hu
    exact h2 (a.length + c) d u (by rw [List.getElem?_append_right (by omega), Nat.add_sub_cancel_left]; exact hd) hu
theorem ValL.ints {H : AH} {k : IntKind} : ∀ {zs : List Int} {us : List Value}, ValL H (zs.map (.int k)) us → us = iv k zs
  | [], us, h => h.nil
  | z :: zs, us, h => by
    obtain ⟨u, r, rfl, hu, hr⟩ := ValL.cons h
    rw [val_int hu, ValL.ints hr]
    rfl
end
end Go.Proofs.YtgamobjfeaeddaaDoor
