/-
  Data of any depth that come in (structs, arrays, slices of numbers, texts and bools, within one another): their blocks, only read. Over any program.
  Byte strings as lists of numbers: parts, bytes, sameness. Over any program.
  Memory of which all that was there stays. Over any program.
  A region whose order is drawn, with calls that turn memory: the calls stand in one row, whatever else there is only looks at temporaries and at blocks that stay. Over any program.
  The clocks, by their text.
  The clocks, by their text.
  The clocks, by their text.
  A function's contract over blocks that it only reads, where they may be turned behind it. Over any program.
  A region whose order is drawn, without calls: each order told. Over any program.
  A region whose order is drawn, with calls: the orders as a tree. Over any program.
  A region whose order is drawn: pure operations first, wherever they are drawn; what is left, calls among it, each order told (a tree). Over any program.
-/
import Derived.Test.YtdeccbjdhcifiaaMcB
import Derived.WalkKit
import Derived.Laws.Rows
import Derived.Laws.Tables
import Derived.Laws.StructEq
import Derived.Deep.RegionHeld3
import Derived.Deep.RegionWith
import Derived.Deep.QuietTactic
import Derived.BigQuiet
import Derived.Test.YtdeccbjdhcifiaaProg
namespace Go.Proofs.Ytdeccbjdhcifiaa
open Go Go.RowKit
set_option linter.unusedSimpArgs false
set_option linter.unusedVariables false
set_option maxRecDepth 100000
set_option maxHeartbeats 4000000
section
open Go Go.RowKit Go.ChangeShapes Go.WideShapes Go.ChangeAt
/-- A cell's datum. -/
inductive CD where
  | int (k : IntKind) (z : Int) | str (s : ByteArray) | bool (b : Bool) | sl (rows : List (List CD))
/-- A cell's kind. -/
inductive CK where
  | int (k : IntKind) | str | bool | sl (ks : List CK)
inductive CD.Ok : CK → CD → Prop
  | int {k : IntKind} {z : Int} (h : (Lit.int k z).wf = true) : CD.Ok (.int k) (.int k z)
  | str {s : ByteArray} (h : s.size ≤ maxLen) : CD.Ok .str (.str s)
  | bool {b : Bool} : CD.Ok .bool (.bool b)
  | sl {ks : List CK} {rows : List (List CD)} (h : rows.length ≤ maxLen) (hl : ∀ row ∈ rows, row.length = ks.length) (hd : ∀ row ∈ rows, ∀ (c : Nat) (k : CK) (d : CD), ks[c]? = some k → row[c]? = some d → CD.Ok k d) : CD.Ok (.sl ks) (.sl rows)
def OkL (ks : List CK) (ds : List CD) : Prop := ds.length = ks.length ∧ ∀ (c : Nat) (k : CK) (d : CD), ks[c]? = some k → ds[c]? = some d → CD.Ok k d
/-- Does this told value show it? -/
inductive CD.Val (H : AH) : CD → Value → Prop
  | int {k : IntKind} {z : Int} : CD.Val H (.int k z) (.int k z)
  | str {s : ByteArray} : CD.Val H (.str s) (.string s)
  | bool {b : Bool} : CD.Val H (.bool b) (.bool b)
  | nil {a : Option Addr} (ha : ∀ x, a = some x → x.spot = some 0) : CD.Val H (.sl []) (.slice a 0 0)
  | sl {sz j : Nat} {k : Blk} {rows : List (List CD)} (h1 : hget H j = some k) (h2 : rows.length * sz ≤ k.cells.length) (h3 : ∀ row ∈ rows, row.length = sz)
      (h4 : ∀ (i : Nat) (row : List CD) (c : Nat) (d : CD) (x : Value), rows[i]? = some row → row[c]? = some d → k.cells[i * sz + c]? = some x → CD.Val H d x) : CD.Val H (.sl rows) (.slice (some ⟨j, 0, none⟩) rows.length rows.length)
def ValL (H : AH) (ds : List CD) (us : List Value) : Prop := us.length = ds.length ∧ ∀ (c : Nat) (d : CD) (u : Value), ds[c]? = some d → us[c]? = some u → CD.Val H d u
theorem CD.Val.low {H H' : AH} {d : CD} {v : Value} (hl : ∀ j, j < H.length → hget H' j = hget H j) (h : CD.Val H d v) : CD.Val H' d v := by
  induction h with
  | int => exact .int
  | str => exact .str
  | bool => exact .bool
  | nil h => exact .nil h
  | sl h1 h2 h3 h4 ih => exact .sl (by rw [hl _ (hget_lt h1)]; exact h1) h2 h3 ih
theorem ValL.low {H H' : AH} {ds : List CD} {us : List Value} (h : ValL H ds us) (hl : ∀ j, j < H.length → hget H' j = hget H j) : ValL H' ds us :=
  ⟨h.1, fun c d u h1 h2 => (h.2 c d u h1 h2).low hl⟩
/-- A cell as it lies in memory. -/
inductive CellD (W : World) : CD → Value → Prop
  | int {k : IntKind} {z : Int} : CellD W (.int k z) (.int k z)
  | str {s : ByteArray} : CellD W (.str s) (.string s)
  | bool {b : Bool} : CellD W (.bool b) (.bool b)
  | nil : CellD W (.sl []) (.slice none 0 0)
  | sl {a : Addr} {cap sz : Nat} {rows : List (List CD)} (f : Nat → Nat → Value) (h0 : 0 < sz) (h1 : rows.length ≤ cap) (h2 : ∀ row ∈ rows, row.length = sz)
      (h3 : ∀ (i : Nat) (row : List CD) (c : Nat) (d : CD), rows[i]? = some row → row[c]? = some d → W.cell? (a.add (i * sz + c)) = some (f i c))
      (h4 : ∀ (i : Nat) (row : List CD) (c : Nat) (d : CD), rows[i]? = some row → row[c]? = some d → CellD W d (f i c)) : CellD W (.sl rows) (.slice (some a) rows.length cap)
def CellL (W : World) (ds : List CD) (cs : List Value) : Prop := cs.length = ds.length ∧ ∀ (c : Nat) (d : CD) (x : Value), ds[c]? = some d → cs[c]? = some x → CellD W d x
section
variable {P : Program} {W : World} {H : Type} {enc : TypeId × Value → H}
def fieldsN (P : Program) (f : TypeId → Option (List CK)) : List Field → Nat → Option (List CK)
  | [], _ => some []
  | x :: l, o => (f x.type).bind fun ks => if x.offset = o ∧ P.cellsOf x.type = ks.length then (fieldsN P f l (o + ks.length)).map (ks ++ ·) else none
/-- A type's cells' kinds. -/
def kindsN (P : Program) : Nat → TypeId → Option (List CK)
  | 0, _ => none
  | n + 1, t => match P.underlying t with
    | some (.int k) => some [.int k]
    | some .string => some [.str]
    | some .bool => some [.bool]
    | some (.slice e) => (kindsN P n e).bind fun ks => if P.cellsOf e = ks.length ∧ 0 < ks.length then some [.sl ks] else none
    | some (.array m e) => (kindsN P n e).bind fun ks => if P.cellsOf e = ks.length ∧ P.cellsOf t = m * ks.length then some (List.replicate m ks).flatten else none
    | some (.struct fs) => (fieldsN P (kindsN P n) fs.toList 0).bind fun ks => if P.cellsOf t = ks.length then some ks else none
    | _ => none
/-- Pieces, one behind the other. -/
theorem pieces : ∀ (ps : List (List CK)) (cs : List Value), cs.length = ps.flatten.length →
    (∀ (i : Nat) (ks : List CK), ps[i]? = some ks → ∃ ds, OkL ks ds ∧ CellL W ds ((cs.drop (ps.take i).flatten.length).take ks.length)) → ∃ ds, OkL ps.flatten ds ∧ CellL W ds cs
  | [], cs, hl, _ => by
    have : cs = [] := List.eq_nil_of_length_eq_zero (by simpa using hl)
    subst this
    exact ⟨[], ⟨rfl, fun c k d h => by simp at h⟩, ⟨rfl, fun c d x h => by simp at h⟩⟩
  | ks :: ps, cs, hl, h => by
    rw [List.flatten_cons, List.length_append] at hl
    obtain ⟨d1, o1, c1⟩ := h 0 ks rfl
    simp only [List.take_zero, List.flatten_nil, List.length_nil, List.drop_zero] at c1
    obtain ⟨d2, o2, c2⟩ := pieces ps (cs.drop ks.length) (by rw [List.length_drop]; omega) (fun i ks' hi => by
      obtain ⟨ds, o, c⟩ := h (i + 1) ks' (by simpa using hi)
      rw [List.take_succ_cons, List.flatten_cons, List.length_append, ← List.drop_drop] at c
      exact ⟨ds, o, c⟩)
    have l1 : d1.length = ks.length := o1.1
    have l1' : (cs.take ks.length).length = ks.length := by rw [List.length_take]; omega
    refine ⟨d1 ++ d2, ⟨by rw [List.flatten_cons, List.length_append, List.length_append, o1.1, o2.1], fun c k d hk hd => ?_⟩, ⟨?_, fun c d x hd hx => ?_⟩⟩
    · rw [List.flatten_cons] at hk
      rcases Nat.lt_or_ge c ks.length with hc | hc
      · rw [List.getElem?_append_left hc] at hk
        rw [List.getElem?_append_left (by omega)] at hd
        exact o1.2 c k d hk hd
      · rw [List.getElem?_append_right hc] at hk
        rw [List.getElem?_append_right (by omega), l1] at hd
        exact o2.2 _ k d hk hd
    · have := c2.1
      rw [List.length_drop] at this
      have := o1.1
      rw [List.length_append]; omega
    · rcases Nat.lt_or_ge c ks.length with hc | hc
      · rw [List.getElem?_append_left (by omega)] at hd
        exact c1.2 c d x hd (by rw [List.getElem?_take_of_lt hc]; exact hx)
      · rw [List.getElem?_append_right (by omega), l1] at hd
        exact c2.2 _ d x hd (by rw [List.getElem?_drop, show ks.length + (c - ks.length) = c by omega]; exact hx)
theorem fieldsN_pieces {f : TypeId → Option (List CK)} : ∀ (l : List Field) (o : Nat) (ks : List CK), fieldsN P f l o = some ks →
    ∃ ps : List (List CK), ks = ps.flatten ∧ ps.length = l.length ∧ ∀ (i : Nat) (x : Field), l[i]? = some x → ∃ k, ps[i]? = some k ∧ f x.type = some k ∧ x.offset = o + (ps.take i).flatten.length ∧ P.cellsOf x.type = k.length
  | [], o, ks, h => by
    cases h
    exact ⟨[], rfl, rfl, fun i x hx => by simp at hx⟩
  | x :: l, o, ks, h => by
    unfold fieldsN at h
    cases hk : f x.type with
    | none => rw [hk] at h; cases h
    | some k =>
      rw [hk] at h
      simp only [Option.bind_some] at h
      split at h
      case isFalse => cases h
      rename_i hc
      cases hr : fieldsN P f l (o + k.length) with
      | none => rw [hr] at h; cases h
      | some kr =>
        rw [hr] at h
        cases h
        obtain ⟨ps, rfl, hpl, hp⟩ := fieldsN_pieces l _ kr hr
        refine ⟨k :: ps, rfl, by simp [hpl], fun i y hy => ?_⟩
        cases i with
        | zero =>
          cases hy
          exact ⟨k, rfl, hk, by simp [hc.1], hc.2⟩
        | succ i =>
          obtain ⟨k', h1, h2, h3, h4⟩ := hp i y (by simpa using hy)
          exact ⟨k', by simpa using h1, h2, by rw [h3, List.take_succ_cons, List.flatten_cons, List.length_append]; omega, h4⟩
theorem flatten_rep {β : Type} (m i : Nat) (ks : List β) (hi : i < m) : ((List.replicate m ks).take i).flatten.length = i * ks.length ∧ (List.replicate m ks)[i]? = some ks := by
  refine ⟨?_, by rw [List.getElem?_replicate, if_pos hi]⟩
  rw [List.take_replicate, List.length_flatten, List.map_replicate, List.sum_replicate_nat, Nat.min_eq_left (Nat.le_of_lt hi)]
/-- From a value that is readable: its data. -/
theorem open_cells {base : Nat} {sp : Nat → Bool} {hd : Bool} : ∀ (fuel n : Nat) (t : TypeId) (ks : List CK) (cs : List Value) (y : DataW H × List MemPlace), kindsN P n t = some ks → DataW.trod enc P W base sp hd fuel t cs = some y → ∃ ds, OkL ks ds ∧ CellL W ds cs := by
  intro fuel
  induction fuel with
  | zero => intro n t ks cs y _ h; simp [DataW.trod] at h
  | succ fuel ih =>
    intro n t ks cs y hk h
    cases n with
    | zero => cases hk
    | succ n =>
      unfold kindsN at hk
      split at hk
      · rename_i k hu
        cases hk
        obtain ⟨z, rfl, _, hw⟩ := DataW.trod_int hu h
        exact ⟨[.int k z], ⟨rfl, fun c k d h1 h2 => by cases c with | zero => cases h1; cases h2; exact .int hw | succ c => simp at h1⟩, ⟨rfl, fun c d x h1 h2 => by cases c with | zero => cases h1; cases h2; exact .int | succ c => simp at h1⟩⟩
      · rename_i hu
        cases hk
        obtain ⟨s, rfl, _, hw⟩ := DataW.trod_string hu h
        exact ⟨[.str s], ⟨rfl, fun c k d h1 h2 => by cases c with | zero => cases h1; cases h2; exact .str hw | succ c => simp at h1⟩, ⟨rfl, fun c d x h1 h2 => by cases c with | zero => cases h1; cases h2; exact .str | succ c => simp at h1⟩⟩
      · rename_i hu
        cases hk
        obtain ⟨b, rfl⟩ := trod_bool' hu h
        exact ⟨[.bool b], ⟨rfl, fun c k d h1 h2 => by cases c with | zero => cases h1; cases h2; exact .bool | succ c => simp at h1⟩, ⟨rfl, fun c d x h1 h2 => by cases c with | zero => cases h1; cases h2; exact .bool | succ c => simp at h1⟩⟩
      · rename_i e hu
        cases hke : kindsN P n e with
        | none => rw [hke] at hk; cases hk
        | some ke =>
          rw [hke] at hk
          simp only [Option.bind_some] at hk
          split at hk
          case isFalse => cases hk
          rename_i hc
          obtain ⟨hc, h0⟩ := hc
          cases hk
          rcases DataW.trod_slice hu h with ⟨rfl, _⟩ | ⟨a, len, cap, elems, rest, m, hfm, rfl, _, hb, hl, hmx, hlen, hel, _, _⟩
          · exact ⟨[.sl []], ⟨rfl, fun c k d h1 h2 => by cases c with | zero => cases h1; cases h2; exact .sl (Nat.zero_le _) (fun r hr => by cases hr) (fun r hr => by cases hr) | succ c => simp at h1⟩, ⟨rfl, fun c d x h1 h2 => by cases c with | zero => cases h1; cases h2; exact .nil | succ c => simp at h1⟩⟩
          · obtain rfl : fuel = m := by omega
            have each : ∀ i, i < len → ∃ dx : List CD × List Value, OkL ke dx.1 ∧ CellL W dx.1 dx.2 ∧ ∀ c, c < ke.length → W.cell? (a.add (i * ke.length + c)) = dx.2[c]? := by
              intro i hi
              have h2 := hel i hi
              rw [hc, List.getElem?_eq_getElem (show i < elems.length by omega), Option.bind_eq_some_iff] at h2
              obtain ⟨cs', hcs, hy⟩ := h2
              obtain ⟨ds, o, c⟩ := ih n e ke cs' _ hke hy
              have hcell := (World.cells?_some hcs).2.2
              exact ⟨(ds, cs'), o, c, fun q hq => by rw [← hcell q hq, Addr.add_add]⟩
            obtain ⟨X, hX1, hX2⟩ := choose_list (fun i (_ : Nat) (dx : List CD × List Value) => OkL ke dx.1 ∧ CellL W dx.1 dx.2 ∧ ∀ c, c < ke.length → W.cell? (a.add (i * ke.length + c)) = dx.2[c]?) (List.range len) 0 (fun i x hx => by
              have := (List.getElem?_eq_some_iff.1 hx).1
              rw [List.length_range] at this
              rw [Nat.zero_add]
              exact each i this)
            rw [List.length_range] at hX1
            have hX : ∀ i dx, X[i]? = some dx → OkL ke dx.1 ∧ CellL W dx.1 dx.2 ∧ ∀ c, c < ke.length → W.cell? (a.add (i * ke.length + c)) = dx.2[c]? := fun i dx hi => by
              have hil := (List.getElem?_eq_some_iff.1 hi).1
              obtain ⟨y, hy1, hy2⟩ := hX2 i i (List.getElem?_range (by omega))
              rw [Nat.zero_add] at hy2
              rw [hi] at hy1
              cases hy1
              exact hy2
            have hrow : ∀ i row, (X.map (·.1))[i]? = some row → ∃ cv, OkL ke row ∧ CellL W row cv ∧ X[i]? = some (row, cv) ∧ ∀ c, c < ke.length → W.cell? (a.add (i * ke.length + c)) = cv[c]? := fun i row hr => by
              rw [List.getElem?_map] at hr
              cases hq : X[i]? with
              | none => rw [hq] at hr; cases hr
              | some dx =>
                rw [hq] at hr
                cases hr
                obtain ⟨q1, q2, q3⟩ := hX i dx hq
                exact ⟨dx.2, q1, q2, rfl, q3⟩
            have hmem : ∀ row ∈ X.map (·.1), OkL ke row := fun row hr => by
              obtain ⟨i, hi⟩ := List.mem_iff_getElem?.1 hr
              obtain ⟨cv, q, _⟩ := hrow i row hi
              exact q
            have hlen2 : (X.map (·.1)).length = len := by rw [List.length_map, hX1]
            refine ⟨[.sl (X.map (·.1))], ⟨rfl, fun c k d h1 h2 => ?_⟩, ⟨rfl, fun c d x h1 h2 => ?_⟩⟩
            · cases c with
              | zero =>
                cases h1; cases h2
                exact .sl (by rw [hlen2]; omega) (fun row hr => (hmem row hr).1) (fun row hr => (hmem row hr).2)
              | succ c => simp at h1
            · cases c with
              | zero =>
                cases h1; cases h2
                have hs := CellD.sl (W := W) (a := a) (cap := cap) (sz := ke.length) (rows := X.map (·.1)) (fun i c => (((X.getD i ([], [])).2).getD c undef)) h0 (by rw [hlen2]; exact hl) (fun row hr => (hmem row hr).1) (fun i row c d hi hc2 => ?_) (fun i row c d hi hc2 => ?_)
                · rwa [hlen2] at hs
                · obtain ⟨cv, q1, q2, q3, q4⟩ := hrow i row hi
                  have hcl : c < ke.length := by rw [← q1.1]; exact (List.getElem?_eq_some_iff.1 hc2).1
                  rw [q4 c hcl]
                  have hcv : c < cv.length := by rw [q2.1, q1.1]; exact hcl
                  simp [List.getD_eq_getElem?_getD, q3, hcv]
                · obtain ⟨cv, q1, q2, q3, q4⟩ := hrow i row hi
                  have hcl : c < ke.length := by rw [← q1.1]; exact (List.getElem?_eq_some_iff.1 hc2).1
                  have hcv : c < cv.length := by rw [q2.1, q1.1]; exact hcl
                  refine q2.2 c d _ hc2 ?_
                  simp [List.getD_eq_getElem?_getD, q3, hcv]
              | succ c => simp at h1
      · rename_i m e hu
        cases hke : kindsN P n e with
        | none => rw [hke] at hk; cases hk
        | some ke =>
          rw [hke] at hk
          simp only [Option.bind_some] at hk
          split at hk
          case isFalse => cases hk
          rename_i hc
          obtain ⟨hc, hct⟩ := hc
          cases hk
          obtain ⟨xs, m2, hfm, _, hl, hn, hel⟩ := DataW.trod_array hu h
          obtain rfl : fuel = m2 := by omega
          refine pieces (List.replicate m ke) cs (by rw [hl, hct, List.length_flatten, List.map_replicate, List.sum_replicate_nat]) (fun i ks hi => ?_)
          have him : i < m := by
            have := (List.getElem?_eq_some_iff.1 hi).1
            simpa using this
          obtain ⟨e1, e2⟩ := flatten_rep m i ke him
          rw [e2] at hi
          cases hi
          have h3 := hel i him
          rw [List.getElem?_eq_getElem (show i < xs.length by omega), hc] at h3
          rw [e1]
          exact ih n e ke _ _ hke h3
      · rename_i fs hu
        cases hf : fieldsN P (kindsN P n) fs.toList 0 with
        | none => rw [hf] at hk; cases hk
        | some kf =>
          rw [hf] at hk
          simp only [Option.bind_some] at hk
          split at hk
          case isFalse => cases hk
          rename_i hc
          cases hk
          obtain ⟨xs, m2, hfm, _, hl, hn, hel⟩ := DataW.trod_struct hu h
          obtain rfl : fuel = m2 := by omega
          obtain ⟨ps, rfl, hpl, hp⟩ := fieldsN_pieces _ _ _ hf
          refine pieces ps cs (by rw [hl, hc]) (fun i ks hi => ?_)
          have him : i < fs.toList.length := by rw [← hpl]; exact (List.getElem?_eq_some_iff.1 hi).1
          obtain ⟨x, hx⟩ : ∃ x, fs.toList[i]? = some x := ⟨_, List.getElem?_eq_getElem him⟩
          obtain ⟨k', h1, h2, h3, h4⟩ := hp i x hx
          rw [hi] at h1
          cases h1
          have h5 := hel i x (by simpa using hx)
          rw [h3, h4, Nat.zero_add, List.getElem?_eq_getElem (by simp at him; omega)] at h5
          exact ih n x.type ks _ _ h2 h5
      · cases hk
end
/-- What is told of cells: their values and blocks, from number n on. -/
structure ToldL (W : World) (n : Nat) (E : List (Ent × Blk)) (us : List Value) (l : List (CD × Value)) : Prop where
  len : us.length = l.length
  ro : ∀ (A B : List (Ent × Blk)), A.length = n → ∀ x ∈ E, x.1.b < W.heap.size ∧ x.2 = ⟨x.2.cells, x.2.ty, x.1.es⟩ ∧ ∃ cs fr, W.heap[x.1.b]? = some (.cells cs x.2.ty fr) ∧ ∀ (j : Nat) (u : Value), x.2.cells[j]? = some u → ∃ y, cs[x.1.o + j]? = some y ∧ V1 ((A ++ (E ++ B)).map (·.1)) u y
  rel : ∀ (A B : List (Ent × Blk)), A.length = n → ∀ (q : Nat) (u : Value) (p : CD × Value), us[q]? = some u → l[q]? = some p → V1 ((A ++ (E ++ B)).map (·.1)) u p.2
  val : ∀ (A B : List (Ent × Blk)), A.length = n → ∀ (q : Nat) (u : Value) (p : CD × Value), us[q]? = some u → l[q]? = some p → p.1.Val ((A ++ (E ++ B)).map fun x => some x.2) u
theorem tell_list {W : World} : ∀ (l : List (CD × Value)), (∀ p ∈ l, ∀ n, ∃ E u, ToldL W n E [u] [p]) → ∀ n, ∃ E us, ToldL W n E us l
  | [], _, n => ⟨[], [], rfl, fun A B _ x hx => (by cases hx), fun A B _ q u p h => (by simp at h), fun A B _ q u p h => (by simp at h)⟩
  | p :: l, h, n => by
    obtain ⟨E1, u, t1⟩ := h p (by simp) n
    obtain ⟨E2, us, t2⟩ := tell_list l (fun p hp => h p (by simp [hp])) (n + E1.length)
    have e1 : ∀ (A B : List (Ent × Blk)), A ++ ((E1 ++ E2) ++ B) = A ++ (E1 ++ (E2 ++ B)) := fun A B => by simp
    have e2 : ∀ (A B : List (Ent × Blk)), A ++ ((E1 ++ E2) ++ B) = (A ++ E1) ++ (E2 ++ B) := fun A B => by simp
    refine ⟨E1 ++ E2, u :: us, by simp [t2.len], fun A B hA x hx => ?_, fun A B hA q v p' hq hp => ?_, fun A B hA q v p' hq hp => ?_⟩
    · rcases List.mem_append.1 hx with hx | hx
      · rw [e1]; exact t1.ro A (E2 ++ B) hA x hx
      · rw [e2]; exact t2.ro (A ++ E1) B (by rw [List.length_append, hA]) x hx
    · cases q with
      | zero => rw [e1]; exact t1.rel A (E2 ++ B) hA 0 v p' hq hp
      | succ q => rw [e2]; exact t2.rel (A ++ E1) B (by rw [List.length_append, hA]) q v p' (by simpa using hq) (by simpa using hp)
    · cases q with
      | zero => rw [e1]; exact t1.val A (E2 ++ B) hA 0 v p' hq hp
      | succ q => rw [e2]; exact t2.val (A ++ E1) B (by rw [List.length_append, hA]) q v p' (by simpa using hq) (by simpa using hp)
theorem single_q {β γ : Type} {R : β → γ → Prop} {x : β} {y : γ} (h : R x y) : ∀ (q : Nat) (u : β) (p : γ), [x][q]? = some u → [y][q]? = some p → R u p := by
  intro q u p h1 h2
  cases q with
  | zero => cases h1; cases h2; exact h
  | succ q => simp at h1
theorem told_plain {W : World} {d : CD} {x : Value} (hp : plain1 x = true) (hv : ∀ H : AH, d.Val H x) (n : Nat) : ∃ E u, ToldL W n E [u] [(d, x)] :=
  ⟨[], x, rfl, fun A B _ y hy => (by cases hy), fun A B _ => single_q (R := fun (u : Value) (p : CD × Value) => V1 _ u p.2) (.plain hp), fun A B _ => single_q (R := fun (u : Value) (p : CD × Value) => p.1.Val _ u) (hv _)⟩
theorem div_mod_at {i c sz : Nat} (hc : c < sz) : (i * sz + c) / sz = i ∧ (i * sz + c) % sz = c := by
  have h0 : 0 < sz := by omega
  constructor
  · rw [Nat.add_comm, Nat.add_mul_div_right _ _ h0, Nat.div_eq_of_lt hc, Nat.zero_add]
  · rw [Nat.add_comm, Nat.add_mul_mod_self_right, Nat.mod_eq_of_lt hc]
theorem tell_one {W : World} {d : CD} {x : Value} (h : CellD W d x) : ∀ n, ∃ E u, ToldL W n E [u] [(d, x)] := by
  induction h with
  | int => exact told_plain rfl fun _ => .int
  | str => exact told_plain rfl fun _ => .str
  | bool => exact told_plain rfl fun _ => .bool
  | nil => exact told_plain rfl fun _ => .nil (fun x h => by cases h)
  | @sl a cap sz rows f h0 h1 h2 h3 h4 ih =>
    intro n
    rcases Nat.eq_zero_or_pos rows.length with hr0 | hr0
    · have : rows = [] := List.eq_nil_of_length_eq_zero hr0
      subst this
      exact ⟨[], .slice (some ⟨0, 0, some 0⟩) 0 0, rfl, fun A B _ y hy => (by cases hy), fun A B _ => single_q (R := fun (u : Value) (p : CD × Value) => V1 _ u p.2) .sl0, fun A B _ => single_q (R := fun (u : Value) (p : CD × Value) => p.1.Val _ u) (.nil (fun x h => by cases h; rfl))⟩
    have at_ : ∀ {i c : Nat}, i < rows.length → c < sz → ∃ row d, rows[i]? = some row ∧ row[c]? = some d := fun {i c} hi hc => by
      have hm := h2 rows[i] (List.getElem_mem hi)
      exact ⟨rows[i], rows[i][c]'(by omega), List.getElem?_eq_getElem hi, List.getElem?_eq_getElem (by omega)⟩
    obtain ⟨row0, d0, hr, hd⟩ := at_ hr0 h0
    have hc0 := h3 0 row0 0 d0 hr hd
    rw [Nat.zero_mul, Nat.zero_add] at hc0
    obtain ⟨b, off, spot⟩ := a
    have hsp : spot = none := by
      cases spot with
      | none => rfl
      | some s =>
        simp only [World.cell?, Addr.add] at hc0
        split at hc0
        · split at hc0 <;> simp_all
        · cases hc0
    subst hsp
    have hblk : ∃ cs ty fr, W.heap[b]? = some (.cells cs ty fr) := by
      rw [add_none'] at hc0
      simp only [World.cell?] at hc0
      split at hc0
      · rename_i c t f hh; exact ⟨c, t, f, hh⟩
      · cases hc0
    obtain ⟨cs, ty, fr, hh⟩ := hblk
    -- the row's cells, as a list
    obtain ⟨l, hl⟩ : ∃ l : List (CD × Value), l = (List.range (rows.length * sz)).map fun q => (((rows.getD (q / sz) []).getD (q % sz) (.bool false)), f (q / sz) (q % sz)) := ⟨_, rfl⟩
    have hll : l.length = rows.length * sz := by rw [hl]; simp
    have hlt : ∀ {i c : Nat}, i < rows.length → c < sz → i * sz + c < rows.length * sz := fun {i c} hi hc => by
      have : (i + 1) * sz ≤ rows.length * sz := Nat.mul_le_mul_right _ hi
      rw [Nat.add_mul] at this
      omega
    have hget_l : ∀ {i c : Nat} {row : List CD} {d : CD}, rows[i]? = some row → row[c]? = some d → l[i * sz + c]? = some (d, f i c) := fun {i c row d} hr hd => by
      have hi := (List.getElem?_eq_some_iff.1 hr).1
      have hc : c < sz := by rw [← h2 row (List.mem_of_getElem? hr)]; exact (List.getElem?_eq_some_iff.1 hd).1
      obtain ⟨q1, q2⟩ := div_mod_at (i := i) hc
      rw [hl, List.getElem?_map, List.getElem?_range (hlt hi hc)]
      simp only [Option.map_some, q1, q2, List.getD_eq_getElem?_getD, hr, hd, Option.getD_some]
    have hmem : ∀ q p, l[q]? = some p → ∃ i c row, rows[i]? = some row ∧ row[c]? = some p.1 ∧ p.2 = f i c ∧ q = i * sz + c ∧ c < sz ∧ i < rows.length := fun q p hq => by
      have hql : q < rows.length * sz := by rw [← hll]; exact (List.getElem?_eq_some_iff.1 hq).1
      have hi : q / sz < rows.length := Nat.div_lt_of_lt_mul (by rw [Nat.mul_comm]; exact hql)
      have hc : q % sz < sz := Nat.mod_lt _ h0
      obtain ⟨row, d, k1, k2⟩ := at_ hi hc
      have e1 : q / sz * sz + q % sz = q := by rw [Nat.mul_comm]; exact Nat.div_add_mod q sz
      have := hget_l k1 k2
      rw [e1, hq] at this
      cases this
      exact ⟨_, _, row, k1, k2, rfl, e1.symm, hc, hi⟩
    obtain ⟨E, us, t⟩ := tell_list l (fun p hp => by
      obtain ⟨q, hq⟩ := List.mem_iff_getElem?.1 hp
      obtain ⟨i, c, row, k1, k2, k3, _⟩ := hmem q p hq
      have := ih i row c p.1 k1 k2
      rw [← k3] at this
      exact this) (n + 1)
    have e1 : ∀ (A B : List (Ent × Blk)), A ++ ((((⟨b, off, 0, none⟩ : Ent), (⟨us, ty, none⟩ : Blk)) :: E) ++ B) = (A ++ [((⟨b, off, 0, none⟩ : Ent), (⟨us, ty, none⟩ : Blk))]) ++ (E ++ B) := fun A B => by simp
    have hAl : ∀ (A : List (Ent × Blk)), A.length = n → (A ++ [((⟨b, off, 0, none⟩ : Ent), (⟨us, ty, none⟩ : Blk))]).length = n + 1 := fun A h => by simp [h]
    have hat : ∀ (A B : List (Ent × Blk)), A.length = n → (A ++ ((((⟨b, off, 0, none⟩ : Ent), (⟨us, ty, none⟩ : Blk)) :: E) ++ B))[n]? = some ((⟨b, off, 0, none⟩ : Ent), (⟨us, ty, none⟩ : Blk)) := fun A B h => by
      rw [List.getElem?_append_right (by omega), h, Nat.sub_self]; rfl
    refine ⟨((⟨b, off, 0, none⟩ : Ent), (⟨us, ty, none⟩ : Blk)) :: E, .slice (some ⟨n, 0, none⟩) rows.length rows.length, rfl, fun A B hA x hx => ?_, fun A B hA q u p hq hp => ?_, fun A B hA q u p hq hp => ?_⟩
    · rcases List.mem_cons.1 hx with rfl | hx
      · refine ⟨(Array.getElem?_eq_some_iff.1 hh).1, rfl, cs, fr, hh, fun j u hu => ?_⟩
        have hj : j < l.length := by rw [← t.len]; exact (List.getElem?_eq_some_iff.1 hu).1
        obtain ⟨p, hp⟩ : ∃ p, l[j]? = some p := ⟨_, List.getElem?_eq_getElem hj⟩
        obtain ⟨i, c, row, k1, k2, k3, k4, k5, k6⟩ := hmem j p hp
        have hcell := h3 i row c p.1 k1 k2
        rw [add_none', ← k4, ← k3] at hcell
        simp only [World.cell?, hh] at hcell
        refine ⟨p.2, by simpa using hcell, ?_⟩
        rw [e1]
        exact t.rel _ B (hAl A hA) j u p hu hp
      · rw [e1]
        exact t.ro _ B (hAl A hA) x hx
    · cases q with
      | succ q => simp at hq
      | zero =>
        cases hq; cases hp
        have := V1.sl (m := (A ++ ((((⟨b, off, 0, none⟩ : Ent), (⟨us, ty, none⟩ : Blk)) :: E) ++ B)).map (·.1)) (i := n) (off := 0) (len := rows.length) (c := cap) (e := ⟨b, off, 0, none⟩) (by rw [List.getElem?_map, hat A B hA]; rfl) h1 (fun _ s hs => by cases hs)
        exact this
    · cases q with
      | succ q => simp at hq
      | zero =>
        cases hq; cases hp
        refine .sl (sz := sz) (j := n) (k := ⟨us, ty, none⟩) ?_ (by show _ ≤ us.length; rw [t.len, hll]; exact Nat.le_refl _) h2 (fun i row c d x hi hc hx => ?_)
        · unfold hget
          rw [List.getElem?_map, hat A B hA]
          rfl
        · have := t.val _ B (hAl A hA) (i * sz + c) x (d, f i c) hx (hget_l hi hc)
          rwa [← e1] at this
/-- What is told of a value that comes in. -/
theorem tell_cells {W : World} {ds : List CD} {cs : List Value} (h : CellL W ds cs) (n : Nat) : ∃ E us, ToldL W n E us (ds.zip cs) := by
  refine tell_list _ (fun p hp => ?_) n
  obtain ⟨q, hq⟩ := List.mem_iff_getElem?.1 hp
  rw [List.getElem?_zip_eq_some] at hq
  obtain ⟨d, x⟩ := p
  exact tell_one (h.2 q d x hq.1 hq.2)
theorem ToldL.valL {W : World} {n : Nat} {E : List (Ent × Blk)} {us : List Value} {ds : List CD} {cs : List Value} (h : ToldL W n E us (ds.zip cs)) (hc : CellL W ds cs) {A B : List (Ent × Blk)} (hA : A.length = n) : ValL ((A ++ (E ++ B)).map fun x => some x.2) ds us := by
  have hl : us.length = ds.length := by rw [h.len, List.length_zip, hc.1, Nat.min_self]
  refine ⟨hl, fun c d u h1 h2 => ?_⟩
  have hcl : c < cs.length := by rw [hc.1]; exact (List.getElem?_eq_some_iff.1 h1).1
  exact h.val A B hA c u (d, cs[c]) h2 (by rw [List.getElem?_zip_eq_some]; exact ⟨h1, List.getElem?_eq_getElem hcl⟩)
theorem ToldL.vOne {W : World} {n : Nat} {E : List (Ent × Blk)} {us : List Value} {ds : List CD} {x : Value} (h : ToldL W n E us (ds.zip [x])) (hc : CellL W ds [x]) {A B : List (Ent × Blk)} (hA : A.length = n) : ∃ u, us = [u] ∧ V ((A ++ (E ++ B)).map (·.1)) u x := by
  have hd := hc.1
  simp only [List.length_singleton] at hd
  have hl : us.length = 1 := by rw [h.len, List.length_zip, ← hd]; rfl
  match us, hl, h with
  | [u], _, h =>
    obtain ⟨d, rfl⟩ : ∃ d, ds = [d] := List.length_eq_one_iff.1 hd.symm
    exact ⟨u, rfl, .one (h.rel A B hA 0 u (d, x) rfl rfl)⟩
section
variable {P : Program} {W : World} {H : Type} {enc : TypeId × Value → H}
theorem open_deep {base : Nat} {sp : Nat → Bool} {hd : Bool} {t : TypeId} {v : Value} {d : DataW H} {p : List MemPlace} (n : Nat) {ks : List CK} (hk : kindsN P n t = some ks) (h : DataW.Trod enc P W base sp hd t v d p) : ∃ ds, OkL ks ds ∧ CellL W ds v.cells.toList := by
  obtain ⟨fuel, hf⟩ := h
  exact open_cells fuel n t ks _ _ hk hf
theorem slice_of {r : Reach} {b0 : Nat} {t e : TypeId} {v : Value} (ht : P.underlying t = some (.slice e)) (hv : Value.okWide P W r b0 t v) : v.cells.toList = [v] := by
  obtain ⟨a0, l0, c0, rfl⟩ := okWide_slice ht hv
  rfl
end
/-- Rows that are chosen one by one. -/
theorem rows_of {β : Type} {f : β → List CD} {R : β → Prop} : ∀ (rows : List (List CD)), (∀ row ∈ rows, ∃ z, row = f z ∧ R z) → ∃ zs : List β, rows = zs.map f ∧ ∀ z ∈ zs, R z
  | [], _ => ⟨[], rfl, fun z hz => by cases hz⟩
  | row :: rows, h => by
    obtain ⟨z, rfl, hz⟩ := h row (by simp)
    obtain ⟨zs, rfl, hzs⟩ := rows_of rows (fun r hr => h r (by simp [hr]))
    exact ⟨z :: zs, rfl, fun y hy => by
      rcases List.mem_cons.1 hy with rfl | hy
      · exact hz
      · exact hzs y hy⟩
theorem ok_sl {ks : List CK} {d : CD} (h : CD.Ok (.sl ks) d) : ∃ rows, d = .sl rows ∧ rows.length ≤ maxLen ∧ ∀ row ∈ rows, OkL ks row := by
  cases h with
  | sl h1 h2 h3 => exact ⟨_, rfl, h1, fun row hr => ⟨h2 row hr, h3 row hr⟩⟩
theorem ok_int {k : IntKind} {d : CD} (h : CD.Ok (.int k) d) : ∃ z, d = .int k z ∧ (Lit.int k z).wf = true := by
  cases h with
  | int h => exact ⟨_, rfl, h⟩
theorem ok_str {d : CD} (h : CD.Ok .str d) : ∃ s, d = .str s ∧ s.size ≤ maxLen := by
  cases h with
  | str h => exact ⟨_, rfl, h⟩
theorem OkL.nil {ds : List CD} (h : OkL [] ds) : ds = [] := List.eq_nil_of_length_eq_zero h.1
theorem OkL.cons {k : CK} {ks : List CK} {ds : List CD} (h : OkL (k :: ks) ds) : ∃ d r, ds = d :: r ∧ CD.Ok k d ∧ OkL ks r := by
  obtain ⟨h1, h2⟩ := h
  cases ds with
  | nil => cases h1
  | cons d r => exact ⟨d, r, rfl, h2 0 k d rfl rfl, by simpa using h1, fun c k d hk hd => h2 (c + 1) k d (by simpa using hk) (by simpa using hd)⟩
theorem OkL.split {a b : List CK} {ds : List CD} (h : OkL (a ++ b) ds) : ∃ x y, ds = x ++ y ∧ OkL a x ∧ OkL b y := by
  obtain ⟨h1, h2⟩ := h
  rw [List.length_append] at h1
  refine ⟨ds.take a.length, ds.drop a.length, (List.take_append_drop _ _).symm, ⟨by rw [List.length_take]; omega, fun c k d hk hd => ?_⟩, ⟨by rw [List.length_drop]; omega, fun c k d hk hd => ?_⟩⟩
  · have hc := (List.getElem?_eq_some_iff.1 hk).1
    rw [List.getElem?_take_of_lt hc] at hd
    exact h2 c k d (by rw [List.getElem?_append_left hc]; exact hk) hd
  · rw [List.getElem?_drop] at hd
    exact h2 (a.length + c) k d (by rw [List.getElem?_append_right (by omega), Nat.add_sub_cancel_left]; exact hk) hd
theorem OkL.ints {k : IntKind} : ∀ {n : Nat} {ds : List CD}, OkL (List.replicate n (.int k)) ds → ∃ zs : List Int, ds = zs.map (.int k) ∧ zs.length = n ∧ ∀ z ∈ zs, (Lit.int k z).wf = true
  | 0, ds, h => ⟨[], h.nil, rfl, fun z hz => by cases hz⟩
  | n + 1, ds, h => by
    rw [List.replicate_succ] at h
    obtain ⟨d, r, rfl, hd, hr⟩ := h.cons
    obtain ⟨z, rfl, hz⟩ := ok_int hd
    obtain ⟨zs, rfl, hl, hzs⟩ := OkL.ints hr
    exact ⟨z :: zs, rfl, by simp [hl], fun y hy => by
      rcases List.mem_cons.1 hy with rfl | hy
      · exact hz
      · exact hzs y hy⟩
theorem ok_ints {k : IntKind} {d : CD} (h : CD.Ok (.sl [.int k]) d) : ∃ zs : List Int, d = .sl (zs.map fun z => [.int k z]) ∧ (∀ z ∈ zs, (Lit.int k z).wf = true) ∧ zs.length ≤ maxLen := by
  obtain ⟨rows, rfl, hm, hr⟩ := ok_sl h
  obtain ⟨zs, rfl, hz⟩ := rows_of (f := fun z => [CD.int k z]) (R := fun z => (Lit.int k z).wf = true) rows (fun row hrow => by
    obtain ⟨d, r, rfl, hd, hr'⟩ := (hr row hrow).cons
    obtain rfl := hr'.nil
    obtain ⟨z, rfl, hz⟩ := ok_int hd
    exact ⟨z, rfl, hz⟩)
  exact ⟨zs, rfl, hz, by simpa using hm⟩
theorem ok_keys {n : Nat} {k : IntKind} {d : CD} (h : CD.Ok (.sl (List.replicate n (.int k))) d) : ∃ zs : List (List Int), d = .sl (zs.map fun key => key.map (.int k)) ∧ (∀ key ∈ zs, key.length = n ∧ ∀ z ∈ key, (Lit.int k z).wf = true) ∧ zs.length ≤ maxLen := by
  obtain ⟨rows, rfl, hm, hr⟩ := ok_sl h
  obtain ⟨zs, rfl, hz⟩ := rows_of (f := fun key : List Int => key.map (CD.int k)) (R := fun key => key.length = n ∧ ∀ z ∈ key, (Lit.int k z).wf = true) rows (fun row hrow => by
    obtain ⟨zs, rfl, hl, hzs⟩ := (hr row hrow).ints
    exact ⟨zs, rfl, hl, hzs⟩)
  exact ⟨zs, rfl, hz, by simpa using hm⟩
theorem val_int {H : AH} {k : IntKind} {z : Int} {v : Value} (h : CD.Val H (.int k z) v) : v = .int k z := by cases h; rfl
theorem val_str {H : AH} {s : ByteArray} {v : Value} (h : CD.Val H (.str s) v) : v = .string s := by cases h; rfl
theorem val_len {P : Program} {H : AH} {rows : List (List CD)} {v : Value} {t e : TypeId} (h : CD.Val H (.sl rows) v) (ht : und P t = .slice e) : xlen P t v = some (.int .i64 rows.length) := by
  cases h with
  | nil => simp [xlen, ht]
  | sl _ _ _ _ => simp [xlen, ht]
theorem val_nt {H : AH} {rows : List (List CD)} {v : Value} (h : CD.Val H (.sl rows) v) : notTuple v = true ∧ v.cells = #[v] := by
  cases h <;> exact ⟨rfl, rfl⟩
/-- One row, by its address. -/
theorem val_at {P : Program} {H : AH} {rows : List (List CD)} {v : Value} {t e : TypeId} {sz : Nat} (h : CD.Val H (.sl rows) v) (ht : und P t = .slice e) (hs : szt P e = sz) (h0 : 0 < sz) (hl : ∀ row ∈ rows, row.length = sz) {i : Nat} {row : List CD} (hi : rows[i]? = some row) :
    ∃ j b us, v = .slice (some ⟨j, 0, none⟩) rows.length rows.length ∧ hget H j = some b ∧ rows.length * sz ≤ b.cells.length ∧ xindexAddr P t v (.int .i64 (i : Nat)) = some (.pointer (some ⟨j, i * sz, none⟩)) ∧
      us = (b.cells.drop (i * sz)).take sz ∧ us.length = sz ∧ i * sz + sz ≤ b.cells.length ∧ (∀ c, c < sz → b.cells[i * sz + c]? = us[c]?) ∧ ValL H row us := by
  have hil := (List.getElem?_eq_some_iff.1 hi).1
  have hrl := hl row (List.mem_of_getElem? hi)
  cases h with
  | nil => simp at hi
  | @sl sz' j b _ h1 h2 h3 h4 =>
    have hsz : sz' = sz := (h3 row (List.mem_of_getElem? hi)).symm.trans hrl
    subst hsz
    have h7 : (i + 1) * sz' ≤ rows.length * sz' := Nat.mul_le_mul_right _ hil
    rw [Nat.add_mul] at h7
    refine ⟨j, b, (b.cells.drop (i * sz')).take sz', rfl, h1, h2, ?_, rfl, by rw [List.length_take, List.length_drop]; omega, by omega, fun c hc => ?_, ⟨by rw [List.length_take, List.length_drop, hrl]; omega, fun c d u hd hu => ?_⟩⟩
    · unfold xindexAddr
      simp only [ht, hs]
      rw [if_pos ⟨by omega, by omega, h0⟩]
      simp
    · rw [List.getElem?_take_of_lt hc, List.getElem?_drop]
    · have hc : c < sz' := by rw [← hrl]; exact (List.getElem?_eq_some_iff.1 hd).1
      rw [List.getElem?_take_of_lt hc, List.getElem?_drop] at hu
      exact h4 i row c d u hi hd hu
theorem load_at {P : Program} {G : AH} {e : TypeId} {sz i j : Nat} {b : Blk} {us : List Value} (hb : hget G j = some b) (hs : szt P e = sz) (h0 : 0 < sz) (hd : isAggD (und P e) = true) (hu : us = (b.cells.drop (i * sz)).take sz) (hle : i * sz + sz ≤ b.cells.length) :
    xload P e (.pointer (some ⟨j, i * sz, none⟩)) G = some (.agg us.toArray) := by
  unfold xload
  simp only [hb, hd, hs, if_true]
  rw [if_pos ⟨h0, hle⟩, hu]
theorem ValL.cons {H : AH} {d : CD} {ds : List CD} {us : List Value} (h : ValL H (d :: ds) us) : ∃ u r, us = u :: r ∧ CD.Val H d u ∧ ValL H ds r := by
  obtain ⟨h1, h2⟩ := h
  cases us with
  | nil => cases h1
  | cons u r => exact ⟨u, r, rfl, h2 0 d u rfl rfl, by simpa using h1, fun c d u hd hu => h2 (c + 1) d u (by simpa using hd) (by simpa using hu)⟩
theorem ValL.nil {H : AH} {us : List Value} (h : ValL H [] us) : us = [] := List.eq_nil_of_length_eq_zero h.1
theorem ValL.split {H : AH} {a b : List CD} {us : List Value} (h : ValL H (a ++ b) us) : ∃ x y, us = x ++ y ∧ ValL H a x ∧ ValL H b y := by
  obtain ⟨h1, h2⟩ := h
  rw [List.length_append] at h1
  refine ⟨us.take a.length, us.drop a.length, (List.take_append_drop _ _).symm, ⟨by rw [List.length_take]; omega, fun c d u hd hu => ?_⟩, ⟨by rw [List.length_drop]; omega, fun c d u hd hu => ?_⟩⟩
  · have hc := (List.getElem?_eq_some_iff.1 hd).1
    rw [List.getElem?_take_of_lt hc] at hu
    exact h2 c d u (by rw [List.getElem?_append_left hc]; exact hd) hu
  · rw [List.getElem?_drop] at hu
    exact h2 (a.length + c) d u (by rw [List.getElem?_append_right (by omega), Nat.add_sub_cancel_left]; exact hd) hu
theorem ValL.ints {H : AH} {k : IntKind} : ∀ {zs : List Int} {us : List Value}, ValL H (zs.map (.int k)) us → us = iv k zs
  | [], us, h => h.nil
  | z :: zs, us, h => by
    obtain ⟨u, r, rfl, hu, hr⟩ := ValL.cons h
    rw [val_int hu, ValL.ints hr]
    rfl
end
section
theorem By.drop {l : List Int} (h : By l) (n : Nat) : By (l.drop n) := fun x hx => h x (List.mem_of_mem_drop hx)
theorem By.take {l : List Int} (h : By l) (n : Nat) : By (l.take n) := fun x hx => h x (List.mem_of_mem_take hx)
end
section
def Same0 (H H' : AH) : Prop := H.length ≤ H'.length ∧ ∀ j, j < H.length → hget H' j = hget H j
theorem Same0.refl (H : AH) : Same0 H H := ⟨Nat.le_refl _, fun _ _ => rfl⟩
theorem Same0.trans {H G K : AH} (h : Same0 H G) (k : Same0 G K) : Same0 H K := ⟨Nat.le_trans h.1 k.1, fun j hj => (k.2 j (Nat.lt_of_lt_of_le hj h.1)).trans (h.2 j hj)⟩
theorem Same0.set {H G : AH} (h : Same0 H G) {p : Nat} (hp : H.length ≤ p) (x : Option Blk) : Same0 H (G.set p x) := ⟨by simpa using h.1, fun j hj => (hget_set_ne (by omega)).trans (h.2 j hj)⟩
theorem Same0.fr {H G K : AH} {F F' : List Nat} (h : Same0 H G) (hf : Fr G K F F') (hF : ∀ j ∈ F, H.length ≤ j) : Same0 H K :=
  ⟨Nat.le_trans h.1 hf.len, fun j hj => (hf.out j (Nat.lt_of_lt_of_le hj h.1) (fun hm => by have := hF j hm; omega)).trans (h.2 j hj)⟩
end
section
section
variable {P : Program} {nro n base : Nat} {γ : Nat → Option Nat} {m : List Ent} {H : AH} {α : Fm} {a : Act} {w : World} {Q : Exit → Fm → AH → Prop} {ops : Array Oper} {S : Nat → Bool} {Φ : Nat → AH → Prop} {K : Fm → AH → Prop}
end
end
namespace Ck
section
open Go.RowKit
/-- A fact kept from the walk. -/
theorem hide {p : Prop} (h : p) : Hid p := h
/-- Integers of one kind as values. -/
def ints (k : IntKind) (l : List Int) : Array Value := (l.map (Value.int k)).toArray
theorem ints_at (k : IntKind) (l : List Int) (i : Nat) (h : i < l.length) : (ints k l)[i]? = some (.int k (l.getD i 0)) := by
  simp [ints, List.getElem?_eq_getElem h]
section
variable {P : Program}
theorem run_part_ints (w : World) (e : TypeId) (k kk : IntKind) (l : List Int) (i : Nat) (hu : P.underlying e = some (.int kk)) (hi : i < l.length) :
    (part e (ints k l) i).run P w = .ok (.int k (l.getD i 0)) w := by
  simp [part, isAgg, run_underlying hu, ints_at k l i hi]
theorem run_equalIn_ints_from (d : Nat) (e : TypeId) (k kk : IntKind) (l m : List Int) (he : P.underlying e = some (.int kk)) (hl : l.length = m.length) (w : World) :
    ∀ j i, i + j = l.length →
    (forIn (m := Sem) (List.range' i j 1) ((none, ()) : Option Bool × Unit) fun i _ => do
        let a ← part e (ints k l) (i * 1)
        let b ← part e (ints k m) (i * 1)
        let r ← Op.equalIn (d + 1) e a b
        if (!r) = true then pure (ForInStep.done (some false, ())) else pure (ForInStep.yield (none, ()))).run P w =
      .ok (if l.drop i = m.drop i then (none, ()) else (some false, ())) w := by
  intro j
  induction j with
  | zero => intro i hij; simp [List.drop_eq_nil_of_le (show l.length ≤ i by omega), List.drop_eq_nil_of_le (show m.length ≤ i by omega)]
  | succ j ih =>
    intro i hij
    have hp := run_part_ints (P := P) w e k kk l i he (by omega)
    have hq := run_part_ints (P := P) w e k kk m i he (by omega)
    have hr := run_equalIn_int (P := P) w d e k kk (l.getD i 0) (m.getD i 0) he
    have hl1 : l.drop i = l.getD i 0 :: l.drop (i + 1) := by rw [List.drop_eq_getElem_cons (show i < l.length by omega)]; simp [List.getElem?_eq_getElem (show i < l.length by omega)]
    have hm1 : m.drop i = m.getD i 0 :: m.drop (i + 1) := by rw [List.drop_eq_getElem_cons (show i < m.length by omega)]; simp [List.getElem?_eq_getElem (show i < m.length by omega)]
    rw [List.range'_succ, List.forIn_cons]
    simp only [Sem.run_bind, Nat.mul_one, hp, hq, hr, Result.andThen_ok]
    by_cases hx : l.getD i 0 = m.getD i 0
    · simp only [hx, beq_self_eq_true, Bool.not_true, Bool.false_eq_true, if_false, Sem.run_pure, Result.andThen_ok]
      have := ih (i + 1) (by omega)
      simp only [Nat.mul_one] at this
      rw [this, hl1, hm1, hx]
      simp
    · have hb : (l.getD i 0 == m.getD i 0) = false := by simpa using hx
      simp only [hb, Bool.not_false, if_true, Sem.run_pure, Result.andThen_ok]
      rw [hl1, hm1, if_neg (by intro h; injection h with h; exact hx h)]
/-- Two arrays of integers, asked for equality. -/
theorem run_equalIn_ints (d : Nat) (t e : TypeId) (n : Nat) (k kk : IntKind) (info : TypeInfo) (l m : List Int) (ht : P.underlying t = some (.array n e)) (he : P.underlying e = some (.int kk))
    (hs : P.info? e = some info) (h1 : info.size = 1) (hl : l.length = n) (hm : m.length = n) (w : World) :
    (Op.equalIn (d + 2) t (.agg (ints k l)) (.agg (ints k m))).run P w = .ok (l == m) w := by
  have h := run_equalIn_ints_from (P := P) d e k kk l m he (by omega) w n 0 (by omega)
  rw [show d + 2 = (d + 1) + 1 from rfl]
  unfold Op.equalIn
  simp only [Sem.run_bind, run_underlying ht, Result.andThen_ok, sizeOf, typeInfo, run_program, hs, Sem.run_pure, h1]
  rw [Std.Legacy.Range.forIn_eq_forIn_range']
  simp only [Std.Legacy.Range.size, Nat.sub_zero, Nat.add_sub_cancel, Nat.div_one]
  rw [h]
  by_cases hx : l = m
  · subst hx; simp
  · simp [hx]
theorem run_eql_ints (t e : TypeId) (n : Nat) (k kk : IntKind) (info : TypeInfo) (l m : List Int) (ht : P.underlying t = some (.array n e)) (he : P.underlying e = some (.int kk))
    (hs : P.info? e = some info) (h1 : info.size = 1) (hl : l.length = n) (hm : m.length = n) (w : World) :
    (binOp .eql t (.agg (ints k l)) (.agg (ints k m))).run P w = .ok (.bool (l == m)) w := by
  rw [run_eql_struct, run_equalIn_ints 9998 t e n k kk info l m ht he hs h1 hl hm]; rfl
/-- The cells of a block that was just made. -/
theorem news_new (w : World) (cs : Array Value) (t : TypeId) : ∀ j u, cs.toList[j]? = some u → (w.alloc (.cells cs t)).cell? ((⟨w.heap.size, 0, none⟩ : Addr).add j) = some u := by
  intro j u hu
  have hadd : (⟨w.heap.size, 0, none⟩ : Addr).add j = ⟨w.heap.size, j, none⟩ := by unfold Addr.add; split <;> simp_all
  rw [hadd, cell_of_row _ _ _ _ _ _ (heap_alloc_new w _)]
  simpa using hu
theorem own_nil (w : World) (b e sz : Nat) : w.ownsRow b e sz (.slice none 0 0) 0 [] := ⟨by simp, Or.inl ⟨rfl, rfl⟩⟩
/-- What owns something owns it from its base on. -/
theorem own_base {w : World} {b e sz n : Nat} {v : Value} {xs : List Value} (h : w.ownsRow b e sz v n xs) : ∀ r, v.ownBlock = some r → b ≤ r := by
  intro r hr
  rcases h.2 with ⟨rfl, _⟩ | ⟨g', cap, cur, rfl, hg, _⟩
  · cases hr
  · have : g' = r := by simpa [Value.ownBlock] using hr
    omega
/-- Block b is the row of these integers, none frozen. -/
def Row (w : World) (b : Nat) (t : TypeId) (k : IntKind) (l : List Int) : Prop := w.heap[b]? = some (.cells (ints k l) t (0, 0))
section
variable {w w' : World} {b : Nat} {t : TypeId} {k : IntKind} {l : List Int}
theorem Row.lt (h : Row w b t k l) : b < w.heap.size := by
  rcases Nat.lt_or_ge b w.heap.size with hlt | hge
  · exact hlt
  · unfold Row at h; rw [Array.getElem?_eq_none hge] at h; cases h
theorem Row.cell (h : Row w b t k l) {i : Nat} (hi : i < l.length) : w.cell? ⟨b, i, none⟩ = some (.int k (l.getD i 0)) := by
  rw [cell_of_row w b i _ t (0, 0) h]; exact ints_at k l i hi
theorem Row.free (h : Row w b t k l) (i : Nat) : w.frozen? ⟨b, i, none⟩ = false := frozen_of_row _ _ _ _ _ h
theorem Row.new (w : World) (t : TypeId) (k : IntKind) (l : List Int) : Row (w.alloc (.cells (ints k l) t)) w.heap.size t k l := heap_alloc_new w _
theorem Row.drew (h : Row w b t k l) : Row w.drew b t k l := h
theorem Row.alloc (h : Row w b t k l) (o : Obj) : Row (w.alloc o) b t k l := (Below.heap_alloc w o b h.lt).trans h
theorem Row.below {B : Nat} (h : Row w b t k l) (hb : Below B w w') (hg : b < B) : Row w' b t k l := (hb.block b hg).trans h
theorem Row.put (h : Row w b t k l) (m : List Int) : Row (w.setRow b (ints k m)) b t k m := setRow_heap w b _ _ t _ h
end
theorem below_drewN {B : Nat} {a w : World} (h : Below B a w) (n : Nat) : Below B a (w.drewN n) := ⟨h.os, h.tape, h.output, h.size, h.block⟩
end
end
section
open Go.RowKit
/-- eight cells -/
def cl (f : Nat → Int) : Array Value := #[.int .u32 (f 0), .int .u32 (f 1), .int .u32 (f 2), .int .u32 (f 3), .int .u32 (f 4), .int .u32 (f 5), .int .u32 (f 6), .int .u32 (f 7)]
def joinTo (C : Nat → Nat → Int) : Nat → Nat → Int
  | 0, _ => 0
  | k + 1, j => max (joinTo C k j) (C k j)
theorem cl_at (f : Nat → Int) (j : Nat) (h : j < 8) : (cl f)[j]? = some (.int .u32 (f j)) := by
  rcases (by omega : j = 0 ∨ j = 1 ∨ j = 2 ∨ j = 3 ∨ j = 4 ∨ j = 5 ∨ j = 6 ∨ j = 7) with rfl | rfl | rfl | rfl | rfl | rfl | rfl | rfl <;> rfl
theorem idx_agg (f : Nat → Int) (j : Nat) (h : j < 8) (W : World) :
    (Instr.index 79 (.agg (cl f)) (.int .i64 j)).run Try.prog W = .ok (.int .u32 (f j)) W := by
  rcases (by omega : j = 0 ∨ j = 1 ∨ j = 2 ∨ j = 3 ∨ j = 4 ∨ j = 5 ∨ j = 6 ∨ j = 7) with rfl | rfl | rfl | rfl | rfl | rfl | rfl | rfl <;> kernel_rfl
theorem cl_congr {f g : Nat → Int} (h : ∀ j, j < 8 → f j = g j) : cl f = cl g := by
  simp [cl, h]
structure JR (w : World) (f : Nat → Int) (wr : World) : Prop where
  below : Below w.heap.size w wr
  size : w.heap.size + 2 ≤ wr.heap.size
  zero : ∃ z, wr.heap[w.heap.size]? = some (.cells (cl z) 79 (0, 0))
  row : wr.heap[w.heap.size + 1]? = some (.cells (cl f) 79 (0, 0))
def mix (j : Nat) (f g : Nat → Int) : Nat → Int := fun i => if i < j then max (f i) (g i) else f i
theorem JR.alloc {w wr : World} {f : Nat → Int} (h : JR w f wr) (o : Obj) : JR w f (wr.alloc o) :=
  ⟨h.below.alloc (by have := h.size; omega) o, by have := h.size; simp; omega, by obtain ⟨z, hz⟩ := h.zero; exact ⟨z, (Below.heap_alloc _ _ _ (by have := h.size; omega)).trans hz⟩,
   (Below.heap_alloc _ _ _ (by have := h.size; omega)).trans h.row⟩
theorem JR.cell {w wr : World} {f : Nat → Int} (h : JR w f wr) {j : Nat} (hj : j < 8) : wr.cell? ⟨w.heap.size + 1, j, none⟩ = some (.int .u32 (f j)) := by
  rw [cell_of_row _ _ _ _ _ _ h.row]; exact cl_at f j hj
theorem JR.free {w wr : World} {f : Nat → Int} (h : JR w f wr) (j : Nat) : wr.frozen? ⟨w.heap.size + 1, j, none⟩ = false := frozen_of_row _ _ _ _ _ h.row
theorem cl_set (f : Nat → Int) (j : Nat) (hj : j < 8) (x : Int) : (cl f).setIfInBounds j (.int .u32 x) = cl (fun i => if i = j then x else f i) := by
  rcases (by omega : j = 0 ∨ j = 1 ∨ j = 2 ∨ j = 3 ∨ j = 4 ∨ j = 5 ∨ j = 6 ∨ j = 7) with rfl | rfl | rfl | rfl | rfl | rfl | rfl | rfl <;> rfl
theorem JR.store {w wr : World} {f : Nat → Int} (h : JR w f wr) {j : Nat} (hj : j < 8) (x : Int) : JR w (fun i => if i = j then x else f i) (wr.setCell ⟨w.heap.size + 1, j, none⟩ (.int .u32 x)) :=
  ⟨h.below.setCell (by simp) _, by have := h.size; simpa [World.setCell] using this, by obtain ⟨z, hz⟩ := h.zero; exact ⟨z, by rw [heap_setCell_other _ _ _ _ (by simp)]; exact hz⟩,
   by rw [heap_setCell_same _ _ _ _ _ _ h.row, cl_set f j hj]⟩
theorem JR.congr {w wr : World} {f g : Nat → Int} (h : JR w f wr) (e : ∀ j, j < 8 → f j = g j) : JR w g wr :=
  ⟨h.below, h.size, h.zero, by rw [← cl_congr e]; exact h.row⟩
theorem mix_succ (j : Nat) (f g : Nat → Int) : (fun i => if i = j then max (f j) (g j) else mix j f g i) = mix (j + 1) f g := by
  funext i
  unfold mix
  by_cases h : i = j
  · subst h; simp
  · by_cases h2 : i < j
    · simp [h, h2, show i < j + 1 by omega]
    · simp [h, h2, show ¬ i < j + 1 by omega]
theorem mix_at (j : Nat) (f g : Nat → Int) : mix j f g j = f j := by simp [mix]
set_option maxHeartbeats 400000 in
theorem join_any (b off : Nat) (n c : Nat) (hn : n ≤ 100) (C : Nat → Nat → Int) (w : World)
    (hb : b < w.heap.size) (hc : ∀ i j, i < n → j < 8 → w.cell? ⟨b, off + (8 * i + j), none⟩ = some (.int .u32 (C i j))) :
    Calls Try.prog 103 #[.slice (some ⟨b, off, none⟩) n c] w fun e w' => e = .returned (.agg (cl (joinTo C n))) ∧ Below w.heap.size w w' := by
  have HC := hc
  have H : Hid (∀ i j, i < n → j < 8 → w.cell? ⟨b, off + (8 * i + j), none⟩ = some (.int .u32 (C i j))) := hc
  clear hc HC
  go_enter Try.func103, Try.ntmps103
  go_wp2
  go_loopw [10] (fun i wr => ∃ k : Nat, k ≤ n ∧ i = .int .i64 k ∧ JR w (joinTo C k) wr) (fun i _ => n - (intOf i).toNat)
  case atStart => 
    refine ⟨0, Nat.zero_le _, rfl, ?_, ?_, ?_, ?_⟩
    · exact ((Below.refl _ _).alloc (Nat.le_refl _) _).alloc (by simp) _
    · simp
    · exact ⟨fun _ => 0, heap_alloc2_old _ _ _⟩
    · exact heap_alloc2_new _ _ _
  case round =>
    obtain ⟨k, hk, rfl, hrel⟩ := hrel
    by_cases hlt : k < n
    · have hB := hrel.1
      have e : ∀ j, j < 8 → wr.cell? ⟨b, off + k * 8 + j, none⟩ = some (.int .u32 (C k j)) := fun j hj => by
        rw [hB.cell (p := ⟨b, off + k * 8 + j, none⟩) hb, show off + k * 8 + j = off + (8 * k + j) by omega]; exact H.out k j hlt hj
      have e0 : wr.cell? ⟨b, off + k * 8, none⟩ = some (.int .u32 (C k 0)) := e 0 (by omega)
      have e1 := e 1 (by omega)
      have e2 := e 2 (by omega)
      have e3 := e 3 (by omega)
      have e4 := e 4 (by omega)
      have e5 := e 5 (by omega)
      have e6 := e 6 (by omega)
      have e7 := e 7 (by omega)
      clear e hB
      go_wp2
      have hr0 := hrel.alloc (Obj.cells #[Value.int IntKind.u32 (C k 0), Value.int IntKind.u32 (C k 1), Value.int IntKind.u32 (C k 2), Value.int IntKind.u32 (C k 3), Value.int IntKind.u32 (C k 4), Value.int IntKind.u32 (C k 5), Value.int IntKind.u32 (C k 6), Value.int IntKind.u32 (C k 7)] 79)
      clear e0 e1 e2 e3 e4 e5 e6 e7 hrel
      obtain ⟨wo, hwo⟩ : ∃ wo : World, wo = wr := ⟨_, rfl⟩
      go_loopw [15] (fun i W => ∃ j : Nat, j ≤ 8 ∧ i = .int .i64 j ∧ JR w (mix j (joinTo C k) (C k)) W) (fun i _ => 8 - (intOf i).toNat)
      case atStart => exact ⟨0, by omega, rfl, hr0⟩
      case round =>
        clear hr0
        obtain ⟨j, hj, rfl, hrel⟩ := hrel
        by_cases hlt2 : j < 8
        · have hi := fun W => idx_agg (C k) j hlt2 W
          simp only [cl] at hi
          have hcell := hrel.cell hlt2
          have hfree := hrel.free j
          go_wp2
          refine ⟨⟨j + 1, by omega, by go_num, ?_⟩, by simp [intOf]; omega⟩
          have hs := hrel.store hlt2 (max (joinTo C k j) (C k j))
          rw [mix_succ] at hs
          rw [mix_at, show (if joinTo C k j < C k j then C k j else joinTo C k j) = max (joinTo C k j) (C k j) by omega]
          exact hs
        · have hj8 : j = 8 := by omega
          go_wp2
          refine ⟨⟨k + 1, by omega, by go_num, ?_⟩, by simp [intOf]; omega⟩
          subst hj8
          exact hrel.congr fun i hi => by simp [mix, hi, joinTo]
    · have hkn : k = n := by omega
      obtain ⟨z, hz⟩ := hrel.zero
      have c0 := hrel.cell (j := 0) (by omega)
      have c1 := hrel.cell (j := 1) (by omega)
      have c2 := hrel.cell (j := 2) (by omega)
      have c3 := hrel.cell (j := 3) (by omega)
      have c4 := hrel.cell (j := 4) (by omega)
      have c5 := hrel.cell (j := 5) (by omega)
      have c6 := hrel.cell (j := 6) (by omega)
      have c7 := hrel.cell (j := 7) (by omega)
      have z0 := (cell_of_row _ _ 0 _ _ _ hz).trans (cl_at z 0 (by omega))
      have z1 := (cell_of_row _ _ 1 _ _ _ hz).trans (cl_at z 1 (by omega))
      have z2 := (cell_of_row _ _ 2 _ _ _ hz).trans (cl_at z 2 (by omega))
      have z3 := (cell_of_row _ _ 3 _ _ _ hz).trans (cl_at z 3 (by omega))
      have z4 := (cell_of_row _ _ 4 _ _ _ hz).trans (cl_at z 4 (by omega))
      have z5 := (cell_of_row _ _ 5 _ _ _ hz).trans (cl_at z 5 (by omega))
      have z6 := (cell_of_row _ _ 6 _ _ _ hz).trans (cl_at z 6 (by omega))
      have z7 := (cell_of_row _ _ 7 _ _ _ hz).trans (cl_at z 7 (by omega))
      have zf : ∀ i, wr.frozen? ⟨w.heap.size, i, none⟩ = false := fun i => frozen_of_row _ _ _ _ _ hz
      clear hz
      have HR : Hid (JR w (joinTo C k) wr) := hrel
      have HN : Hid (k = n) := hkn
      clear hrel hkn
      go_wp2
      refine bodyPost_ret (v := .agg (cl (joinTo C k))) (by simp [results, Try.results103, go_sem, z0, z1, z2, z3, z4, z5, z6, z7, cl]) rfl ⟨by rw [HN.out], ?_⟩
      have hb := HR.out.below
      exact (((((((hb.setCell (by simp) _).setCell (by simp) _).setCell (by simp) _).setCell (by simp) _).setCell (by simp) _).setCell (by simp) _).setCell (by simp) _).setCell (by simp) _
end
section
open Go.RowKit
def fl (f : Nat → Int) : List Int := (List.range 8).map f
theorem cl_fl (f : Nat → Int) : cl f = ints .u32 (fl f) := rfl
theorem fl_len (f : Nat → Int) : (fl f).length = 8 := rfl
theorem eq_clk (f g : Nat → Int) (W : World) : (binOp .eql 79 (.agg (cl f)) (.agg (cl g))).run Try.prog W = .ok (.bool (fl f == fl g)) W := by
  rw [cl_fl, cl_fl]
  obtain ⟨i, hi, h1⟩ : ∃ i, Try.prog.info? 35 = some i ∧ i.size = 1 := ⟨_, rfl, by kernel_rfl⟩
  exact run_eql_ints 79 35 8 .u32 .u32 i _ _ Try.underlying79 Try.underlying35 hi h1 rfl rfl W
/-- the clocks of a list of two -/
def two (f g : Nat → Int) : Nat → Nat → Int := fun i => if i = 0 then f else g
def join2 (f g : Nat → Int) : Nat → Int := joinTo (two f g) 2
/-- Join of a slice of two clocks that was just built. -/
theorem join_two (f g : Nat → Int) (b : Nat) (cs : Array Value) (w : World) (hb : b = w.heap.size) (hcs : cs = cl f ++ cl g) :
    Calls Try.prog 103 #[.slice (some ⟨b, 0, none⟩) 2 2] (w.alloc (.cells cs 79)) fun e w' => e = .returned (.agg (cl (join2 f g))) ∧ Below w.heap.size w w' := by
  subst hb hcs
  have hrow := heap_alloc_new w (.cells (cl f ++ cl g) 79)
  refine (join_any w.heap.size 0 2 2 (by omega) (two f g) (w.alloc (.cells (cl f ++ cl g) 79)) (by simp) ?_).mono ?_
  · intro i j hi hj
    rw [cell_of_row _ _ _ _ _ _ hrow]
    rcases (by omega : i = 0 ∨ i = 1) with rfl | rfl <;> rcases (by omega : j = 0 ∨ j = 1 ∨ j = 2 ∨ j = 3 ∨ j = 4 ∨ j = 5 ∨ j = 6 ∨ j = 7) with rfl | rfl | rfl | rfl | rfl | rfl | rfl | rfl <;> rfl
  · rintro e w' ⟨rfl, hb⟩
    exact ⟨rfl, ((Below.refl _ _).alloc (Nat.le_refl _) _).trans (hb.mono (by simp))⟩
theorem cells8 {w : World} {b : Nat} {f : Nat → Int} (h : w.heap[b]? = some (.cells (cl f) 79 (0, 0))) :
    w.cell? ⟨b, 0, none⟩ = some (.int .u32 (f 0)) ∧ w.cell? ⟨b, 1, none⟩ = some (.int .u32 (f 1)) ∧ w.cell? ⟨b, 2, none⟩ = some (.int .u32 (f 2)) ∧ w.cell? ⟨b, 3, none⟩ = some (.int .u32 (f 3)) ∧
    w.cell? ⟨b, 4, none⟩ = some (.int .u32 (f 4)) ∧ w.cell? ⟨b, 5, none⟩ = some (.int .u32 (f 5)) ∧ w.cell? ⟨b, 6, none⟩ = some (.int .u32 (f 6)) ∧ w.cell? ⟨b, 7, none⟩ = some (.int .u32 (f 7)) := by
  refine ⟨?_, ?_, ?_, ?_, ?_, ?_, ?_, ?_⟩ <;> rw [cell_of_row _ _ _ _ _ _ h] <;> rfl
def orderOf (f g : Nat → Int) : Int := if fl (join2 f g) == fl f then (if fl f == fl g then 0 else 1) else if fl (join2 f g) == fl g then -1 else 2
set_option maxHeartbeats 400000 in
theorem order_any (f g : Nat → Int) (w : World) :
    Calls Try.prog 57 #[.agg (cl f), .agg (cl g)] w fun e w' => e = .returned (.int .i64 (orderOf f g)) ∧ Below w.heap.size w w' := by
  have E1 := eq_clk (join2 f g) f
  have E2 := eq_clk (join2 f g) g
  have E3 := eq_clk f g
  have O : Hid (orderOf f g = if fl (join2 f g) == fl f then (if fl f == fl g then 0 else 1) else if fl (join2 f g) == fl g then -1 else 2) := rfl
  generalize (fl (join2 f g) == fl f) = b1 at *
  generalize (fl (join2 f g) == fl g) = b2 at *
  generalize (fl f == fl g) = b3 at *
  generalize orderOf f g = o at *
  simp only [cl] at E1 E2 E3 ⊢
  go_enter Try.func57, Try.ntmps57
  go_wp2_with fail
  refine (join_two f g _ _ _ (by simp) rfl).mono ?_
  rintro e w' ⟨rfl, hb⟩
  simp only [cl]
  obtain ⟨f0, f1, f2, f3, f4, f5, f6, f7⟩ := cells8 ((hb.block w.heap.size (by simp; omega)).trans (heap_alloc2_old w (.cells (cl f) 79) (.cells (cl g) 79)))
  obtain ⟨g0, g1, g2, g3, g4, g5, g6, g7⟩ := cells8 ((hb.block (w.heap.size + 1) (by simp)).trans (heap_alloc2_new w (.cells (cl f) 79) (.cells (cl g) 79)))
  have hB : Below w.heap.size w w' := (((Below.refl _ _).alloc (Nat.le_refl _) _).alloc (by simp) _).trans (hb.mono (by simp; omega))
  clear hb
  cases b1
  · cases b2
    · go_wp2
      go_ret
      exact ⟨by rw [O.out]; rfl, hB⟩
    · go_wp2
      go_ret
      exact ⟨by rw [O.out]; rfl, hB⟩
  · cases b3
    · go_wp2
      go_ret
      exact ⟨by rw [O.out]; rfl, hB⟩
    · go_wp2
      go_ret
      exact ⟨by rw [O.out]; rfl, hB⟩
end
section
open Go.RowKit
end
section
open Go.RowKit
theorem fl_eq {f g : Nat → Int} : fl f = fl g ↔ ∀ j, j < 8 → f j = g j := by
  unfold fl
  constructor
  · intro h j hj
    have := congrArg (fun l : List Int => l[j]?) h
    simpa [hj] using this
  · intro h
    exact List.map_congr_left fun j hj => h j (by simpa using hj)
def U32' (f : Nat → Int) : Prop := ∀ j, 0 ≤ f j
theorem join2_at (f g : Nat → Int) (hf : U32' f) (j : Nat) : join2 f g j = max (f j) (g j) := by
  have := hf j
  simp only [join2, joinTo, two, Nat.reduceEqDiff, if_true, if_false]
  omega
end
end Ck
namespace Ck
section
open Go.RowKit
def spanCells (f g : Nat → Int) (j : Nat) : List Value := if f j < g j then [.int .i64 j, .int .u32 (f j + 1), .int .u32 (g j)] else []
def lacksTo (f g : Nat → Int) : Nat → List Value
  | 0 => []
  | k + 1 => lacksTo f g k ++ spanCells f g k
def lacksN (f g : Nat → Int) : Nat → Nat
  | 0 => 0
  | k + 1 => lacksN f g k + if f k < g k then 1 else 0
theorem lacksN_le (f g : Nat → Int) (k : Nat) : lacksN f g k ≤ k := by
  induction k with
  | zero => simp [lacksN]
  | succ k ih => unfold lacksN; split <;> omega
theorem info_span : (Try.prog.info? 89).map (fun i => (i.zero, i.size, i.bytes)) = some (some (.agg #[.int .i64 0, .int .u32 0, .int .u32 0]), 3, 16) := by kernel_rfl
def U32 (f : Nat → Int) : Prop := ∀ j, 0 ≤ f j ∧ f j ≤ 4294967295
theorem cl_cell {w : World} {b : Nat} {f : Nat → Int} (h : w.heap[b]? = some (.cells (cl f) 79 (0, 0))) {j : Nat} (hj : j < 8) : w.cell? ⟨b, j, none⟩ = some (.int .u32 (f j)) := by
  rw [cell_of_row _ _ _ _ _ _ h]; exact cl_at f j hj
/-- what the loop of Lacks keeps -/
structure LRel (w : World) (f g : Nat → Int) (k : Nat) (v : Value) (wr : World) : Prop where
  own : wr.ownsRow (w.heap.size + 2) 89 3 v (lacksN f g k) (lacksTo f g k)
  box : wr.heap[w.heap.size]? = some (.cells (cl f) 79 (0, 0))
  below : Below w.heap.size w wr
  size : w.heap.size + 2 ≤ wr.heap.size
theorem LRel.start (w : World) (f g : Nat → Int) : LRel w f g 0 (.slice none 0 0) ((w.alloc (.cells (cl f) 79)).alloc (.cells (cl g) 79)) :=
  ⟨own_nil _ _ _ _, heap_alloc2_old _ _ _, ((Below.refl _ _).alloc (Nat.le_refl _) _).alloc (by simp) _, by simp⟩
theorem LRel.same {w : World} {f g : Nat → Int} {k : Nat} {v : Value} {wr : World} (h : LRel w f g k v wr) (hk : ¬ f k < g k) : LRel w f g (k + 1) v wr :=
  ⟨by simpa [lacksN, lacksTo, spanCells, hk] using h.own, h.box, h.below, h.size⟩
theorem LRel.more {w : World} {f g : Nat → Int} {k : Nat} {v v' : Value} {wr w1 : World} {o : Obj} (h : LRel w f g k v wr) (hk : f k < g k)
    (hown : w1.ownsRow (w.heap.size + 2) 89 3 v' (lacksN f g k + 1) (lacksTo f g k ++ [.int .i64 k, .int .u32 (f k + 1), .int .u32 (g k)])) (hgrow : (wr.alloc o).grownBy w1 v.ownBlock) : LRel w f g (k + 1) v' w1 := by
  have hb := own_base h.own
  have hs := h.size
  have hsz := hgrow.size
  simp at hsz
  refine ⟨by simpa [lacksN, lacksTo, spanCells, hk] using hown, ?_, ?_, by omega⟩
  · rw [hgrow.block _ (by simp; omega) (fun e => by have := hb _ e.symm; omega), Below.heap_alloc _ _ _ (by omega)]; exact h.box
  · exact (h.below.alloc (by omega) o).grown hgrow (by simp; omega) (fun r hr => by have := hb r hr; omega)
set_option maxHeartbeats 400000 in
theorem lacks_any (f g : Nat → Int) (hf : U32 f) (hg : U32 g) (w : World) :
    Calls Try.prog 59 #[.agg (cl f), .agg (cl g)] w fun e w' => ∃ v, e = .returned v ∧ LRel w f g 8 v w' := by
  obtain ⟨i0, hi, hz0, hz1, hz2⟩ := info_parts info_span
  have hstart := LRel.start w f g
  have HS := hide hstart
  clear hstart
  simp only [cl]
  go_enter Try.func59, Try.ntmps59
  go_wp2
  go_loopw [5, 9] (fun v i wr => ∃ k : Nat, k ≤ 8 ∧ i = .int .i64 k ∧ LRel w f g k v wr) (fun _ i _ => 8 - (intOf i).toNat)
  case atStart => exact ⟨0, by omega, rfl, HS.out⟩
  case round =>
    clear HS
    obtain ⟨k, hk, rfl, hrel⟩ := hrel
    by_cases hlt : k < 8
    · have hi := fun W => idx_agg g k hlt W
      simp only [cl] at hi
      have hcell := cl_cell hrel.box hlt
      by_cases hfg : f k < g k
      · have hb1 := (hf k).1
        have hb2 : f k + 1 ≤ 4294967295 := by have := (hg k).2; omega
        have hN := lacksN_le f g k
        have hown := hrel.own
        have hsz := hrel.size
        go_wp2_with (at_builtin; refine wpList_append_own _ rfl _ _ 86 rfl (w.heap.size + 2) 89 i0 (.agg #[.int .i64 0, .int .u32 0, .int .u32 0]) 3 16 Try.underlying86 (by assumption) hz0 hz1 hz2 rfl (by decide) _ _ _ rfl (hown.alloc _) ⟨wr.heap.size, 0, none⟩ 1 1 [.int .i64 k, .int .u32 (f k + 1), .int .u32 (g k)] rfl rfl ?c1 ?c2 ?c3 ?c4 ?c5 ?_)
        case c1 => exact news_new _ _ _
        case c2 => simp [Value.oneCell']
        case c3 => unfold maxLen; omega
        case c4 => omega
        case c5 => simp; omega
        intro v' w1 hown1 hgrow _
        have hrel1 := hrel.more hfg hown1 hgrow
        clear hown1 hgrow hown hcell hrel hi hsz
        go_wp2
        go_roundw
        case rel => exact ⟨k + 1, by omega, by go_num, hrel1⟩
        case measure => simp [intOf]; omega
      · go_wp2
        go_roundw
        case rel => exact ⟨k + 1, by omega, by go_num, hrel.same hfg⟩
        case measure => simp [intOf]; omega
    · have : k = 8 := by omega
      subst this
      go_wp2
      go_ret
      exact ⟨_, rfl, hrel⟩
end
section
open Go.RowKit
def dec (c : Nat → Int) (a : Nat) : Nat → Int := fun i => if i = a then c a - 1 else c i
/-- what Due answers, for an author who is a member -/
def dueOf (have_ c : Nat → Int) (a : Nat) : Bool :=
  if c a = 0 then false else (c a - 1 == have_ a) && (fl (join2 have_ (dec c a)) == fl have_)
def dueB (have_ c : Nat → Int) (author : Int) : Bool := if author < 0 ∨ 8 ≤ author then false else dueOf have_ c author.toNat
set_option maxHeartbeats 400000 in
theorem due_out (f g : Nat → Int) (a : Int) (ha : a < 0 ∨ 8 ≤ a) (w : World) :
    Calls Try.prog 60 #[.agg (cl f), .agg (cl g), .int .i64 a] w fun e w' => e = .returned (.bool false) ∧ Below w.heap.size w w' := by
  simp only [cl]
  rcases ha with ha | ha
  · go_enter Try.func60, Try.ntmps60
    go_wp2
    go_ret
    exact ⟨rfl, ((Below.refl _ _).alloc (Nat.le_refl _) _).alloc (by simp) _⟩
  · have h0 : ¬ a < 0 := by omega
    go_enter Try.func60, Try.ntmps60
    go_wp2
    go_ret
    exact ⟨rfl, ((Below.refl _ _).alloc (Nat.le_refl _) _).alloc (by simp) _⟩
set_option maxHeartbeats 400000 in
theorem due_zero (f g : Nat → Int) (a : Nat) (ha : a < 8) (hz : g a = 0) (w : World) :
    Calls Try.prog 60 #[.agg (cl f), .agg (cl g), .int .i64 a] w fun e w' => e = .returned (.bool false) ∧ Below w.heap.size w w' := by
  have hc := cl_cell (heap_alloc2_new w (.cells (cl f) 79) (.cells (cl g) 79)) ha
  have hz' : (g a == 0) = true := by simp [hz]
  clear hz
  simp only [cl] at hc ⊢
  go_enter Try.func60, Try.ntmps60
  go_wp2
  go_ret
  exact ⟨rfl, ((Below.refl _ _).alloc (Nat.le_refl _) _).alloc (by simp) _⟩
theorem join_row (f g : Nat → Int) (b : Nat) (cs : Array Value) (X : World) (hX : X.heap[b]? = some (.cells cs 79 (0, 0))) (hcs : cs = cl f ++ cl g) :
    Calls Try.prog 103 #[.slice (some ⟨b, 0, none⟩) 2 2] X fun e w' => e = .returned (.agg (cl (join2 f g))) ∧ Below X.heap.size X w' := by
  subst hcs
  refine (join_any b 0 2 2 (by omega) (two f g) X ?_ ?_).mono ?_
  · rcases Nat.lt_or_ge b X.heap.size with hlt | hge
    · exact hlt
    · rw [Array.getElem?_eq_none hge] at hX; cases hX
  · intro i j hi hj
    rw [cell_of_row _ _ _ _ _ _ hX]
    rcases (by omega : i = 0 ∨ i = 1) with rfl | rfl <;> rcases (by omega : j = 0 ∨ j = 1 ∨ j = 2 ∨ j = 3 ∨ j = 4 ∨ j = 5 ∨ j = 6 ∨ j = 7) with rfl | rfl | rfl | rfl | rfl | rfl | rfl | rfl <;> rfl
  · rintro e w' ⟨rfl, hb⟩
    exact ⟨rfl, hb⟩
theorem heap3 (w : World) (A B C : Obj) : ((((w.alloc A).alloc B).alloc C).drew).heap[w.heap.size + 1 + 1]? = some C := by
  have h := heap_alloc_new ((w.alloc A).alloc B) C
  have e : ((w.alloc A).alloc B).heap.size = w.heap.size + 1 + 1 := by simp
  rw [e] at h
  exact h
theorem heap3_0 (w : World) (A B C : Obj) : ((((w.alloc A).alloc B).alloc C).drew).heap[w.heap.size]? = some A :=
  (Below.heap_alloc ((w.alloc A).alloc B) C w.heap.size (by simp; omega)).trans (heap_alloc2_old w A B)
theorem heap3_1 (w : World) (A B C : Obj) : ((((w.alloc A).alloc B).alloc C).drew).heap[w.heap.size + 1]? = some B :=
  (Below.heap_alloc ((w.alloc A).alloc B) C (w.heap.size + 1) (by simp)).trans (heap_alloc2_new w A B)
set_option maxHeartbeats 400000 in
theorem due_not0 (f g : Nat → Int) (hb1 : 0 ≤ g 0 - 1) (hb2 : g 0 - 1 ≤ 4294967295) (hz' : (g 0 == 0) = false) (hq : (g 0 - 1 == f 0) = false) (w : World) :
    Calls Try.prog 60 #[.agg (cl f), .agg (cl g), .int .i64 0] w fun e w' => e = .returned (.bool false) ∧ Below w.heap.size w w' := by
  simp only [cl]
  go_enter Try.func60, Try.ntmps60
  go_wp2_with fail
  go_quiet (fail)
  go_wp2
  go_ret
  exact ⟨rfl, below_drewN (((Below.refl _ _).alloc (Nat.le_refl _) _).alloc (by simp) _) _⟩
set_option maxHeartbeats 400000 in
theorem due_not1 (f g : Nat → Int) (hb1 : 0 ≤ g 1 - 1) (hb2 : g 1 - 1 ≤ 4294967295) (hz' : (g 1 == 0) = false) (hq : (g 1 - 1 == f 1) = false) (w : World) :
    Calls Try.prog 60 #[.agg (cl f), .agg (cl g), .int .i64 1] w fun e w' => e = .returned (.bool false) ∧ Below w.heap.size w w' := by
  simp only [cl]
  go_enter Try.func60, Try.ntmps60
  go_wp2_with fail
  go_quiet (fail)
  go_wp2
  go_ret
  exact ⟨rfl, below_drewN (((Below.refl _ _).alloc (Nat.le_refl _) _).alloc (by simp) _) _⟩
set_option maxHeartbeats 400000 in
theorem due_not2 (f g : Nat → Int) (hb1 : 0 ≤ g 2 - 1) (hb2 : g 2 - 1 ≤ 4294967295) (hz' : (g 2 == 0) = false) (hq : (g 2 - 1 == f 2) = false) (w : World) :
    Calls Try.prog 60 #[.agg (cl f), .agg (cl g), .int .i64 2] w fun e w' => e = .returned (.bool false) ∧ Below w.heap.size w w' := by
  simp only [cl]
  go_enter Try.func60, Try.ntmps60
  go_wp2_with fail
  go_quiet (fail)
  go_wp2
  go_ret
  exact ⟨rfl, below_drewN (((Below.refl _ _).alloc (Nat.le_refl _) _).alloc (by simp) _) _⟩
set_option maxHeartbeats 400000 in
theorem due_not3 (f g : Nat → Int) (hb1 : 0 ≤ g 3 - 1) (hb2 : g 3 - 1 ≤ 4294967295) (hz' : (g 3 == 0) = false) (hq : (g 3 - 1 == f 3) = false) (w : World) :
    Calls Try.prog 60 #[.agg (cl f), .agg (cl g), .int .i64 3] w fun e w' => e = .returned (.bool false) ∧ Below w.heap.size w w' := by
  simp only [cl]
  go_enter Try.func60, Try.ntmps60
  go_wp2_with fail
  go_quiet (fail)
  go_wp2
  go_ret
  exact ⟨rfl, below_drewN (((Below.refl _ _).alloc (Nat.le_refl _) _).alloc (by simp) _) _⟩
set_option maxHeartbeats 400000 in
theorem due_not4 (f g : Nat → Int) (hb1 : 0 ≤ g 4 - 1) (hb2 : g 4 - 1 ≤ 4294967295) (hz' : (g 4 == 0) = false) (hq : (g 4 - 1 == f 4) = false) (w : World) :
    Calls Try.prog 60 #[.agg (cl f), .agg (cl g), .int .i64 4] w fun e w' => e = .returned (.bool false) ∧ Below w.heap.size w w' := by
  simp only [cl]
  go_enter Try.func60, Try.ntmps60
  go_wp2_with fail
  go_quiet (fail)
  go_wp2
  go_ret
  exact ⟨rfl, below_drewN (((Below.refl _ _).alloc (Nat.le_refl _) _).alloc (by simp) _) _⟩
set_option maxHeartbeats 400000 in
theorem due_not5 (f g : Nat → Int) (hb1 : 0 ≤ g 5 - 1) (hb2 : g 5 - 1 ≤ 4294967295) (hz' : (g 5 == 0) = false) (hq : (g 5 - 1 == f 5) = false) (w : World) :
    Calls Try.prog 60 #[.agg (cl f), .agg (cl g), .int .i64 5] w fun e w' => e = .returned (.bool false) ∧ Below w.heap.size w w' := by
  simp only [cl]
  go_enter Try.func60, Try.ntmps60
  go_wp2_with fail
  go_quiet (fail)
  go_wp2
  go_ret
  exact ⟨rfl, below_drewN (((Below.refl _ _).alloc (Nat.le_refl _) _).alloc (by simp) _) _⟩
set_option maxHeartbeats 400000 in
theorem due_not6 (f g : Nat → Int) (hb1 : 0 ≤ g 6 - 1) (hb2 : g 6 - 1 ≤ 4294967295) (hz' : (g 6 == 0) = false) (hq : (g 6 - 1 == f 6) = false) (w : World) :
    Calls Try.prog 60 #[.agg (cl f), .agg (cl g), .int .i64 6] w fun e w' => e = .returned (.bool false) ∧ Below w.heap.size w w' := by
  simp only [cl]
  go_enter Try.func60, Try.ntmps60
  go_wp2_with fail
  go_quiet (fail)
  go_wp2
  go_ret
  exact ⟨rfl, below_drewN (((Below.refl _ _).alloc (Nat.le_refl _) _).alloc (by simp) _) _⟩
set_option maxHeartbeats 400000 in
theorem due_not7 (f g : Nat → Int) (hb1 : 0 ≤ g 7 - 1) (hb2 : g 7 - 1 ≤ 4294967295) (hz' : (g 7 == 0) = false) (hq : (g 7 - 1 == f 7) = false) (w : World) :
    Calls Try.prog 60 #[.agg (cl f), .agg (cl g), .int .i64 7] w fun e w' => e = .returned (.bool false) ∧ Below w.heap.size w w' := by
  simp only [cl]
  go_enter Try.func60, Try.ntmps60
  go_wp2_with fail
  go_quiet (fail)
  go_wp2
  go_ret
  exact ⟨rfl, below_drewN (((Below.refl _ _).alloc (Nat.le_refl _) _).alloc (by simp) _) _⟩
set_option maxHeartbeats 800000 in
theorem due_yes0 (f g : Nat → Int) (hb1 : 0 ≤ g 0 - 1) (hb2 : g 0 - 1 ≤ 4294967295) (hz' : (g 0 == 0) = false) (hq : (g 0 - 1 == f 0) = true) (w : World) :
    Calls Try.prog 60 #[.agg (cl f), .agg (cl g), .int .i64 0] w fun e w' => e = .returned (.bool (fl (join2 f (dec g 0)) == fl f)) ∧ Below w.heap.size w w' := by
  have E := eq_clk (join2 f (dec g 0)) f
  generalize (fl (join2 f (dec g 0)) == fl f) = b at *
  simp only [cl] at E ⊢
  go_enter Try.func60, Try.ntmps60
  go_wp2_with fail
  go_region_held3 (fun w' => w'.cell? ⟨w.heap.size, 0, none⟩ = some (.int .u32 (f 0)) ∧ w'.cell? ⟨w.heap.size, 1, none⟩ = some (.int .u32 (f 1)) ∧ w'.cell? ⟨w.heap.size, 2, none⟩ = some (.int .u32 (f 2)) ∧ w'.cell? ⟨w.heap.size, 3, none⟩ = some (.int .u32 (f 3)) ∧ w'.cell? ⟨w.heap.size, 4, none⟩ = some (.int .u32 (f 4)) ∧ w'.cell? ⟨w.heap.size, 5, none⟩ = some (.int .u32 (f 5)) ∧ w'.cell? ⟨w.heap.size, 6, none⟩ = some (.int .u32 (f 6)) ∧ w'.cell? ⟨w.heap.size, 7, none⟩ = some (.int .u32 (f 7)) ∧ w'.cell? ⟨w.heap.size + 1, 0, none⟩ = some (.int .u32 (g 0 - 1)) ∧ w'.cell? ⟨w.heap.size + 1, 1, none⟩ = some (.int .u32 (g 1)) ∧ w'.cell? ⟨w.heap.size + 1, 2, none⟩ = some (.int .u32 (g 2)) ∧ w'.cell? ⟨w.heap.size + 1, 3, none⟩ = some (.int .u32 (g 3)) ∧ w'.cell? ⟨w.heap.size + 1, 4, none⟩ = some (.int .u32 (g 4)) ∧ w'.cell? ⟨w.heap.size + 1, 5, none⟩ = some (.int .u32 (g 5)) ∧ w'.cell? ⟨w.heap.size + 1, 6, none⟩ = some (.int .u32 (g 6)) ∧ w'.cell? ⟨w.heap.size + 1, 7, none⟩ = some (.int .u32 (g 7))) (first | go_keep | exact ⟨f0,f1,f2,f3,f4,f5,f6,f7,g0,g1,g2,g3,g4,g5,g6,g7⟩) (first | (go_at_call 103; refine (join_row f (dec g 0) _ _ _ (heap3 _ _ _ _) (by simp [cl, dec])).mono ?_; rintro e w2 ⟨rfl, hb⟩; obtain ⟨f0, f1, f2, f3, f4, f5, f6, f7⟩ := cells8 ((hb.block w.heap.size (by simp; omega)).trans (heap3_0 w (.cells (cl f) 79) _ _)); obtain ⟨g0, g1, g2, g3, g4, g5, g6, g7⟩ := cells8 ((hb.block (w.heap.size + 1) (by simp)).trans (heap3_1 w _ (.cells (cl (dec g 0)) 79) _)); (simp only [dec] at g0 g1 g2 g3 g4 g5 g6 g7); have hB : Below w.heap.size w w2 := (((((Below.refl _ _).alloc (Nat.le_refl _) _).alloc (by simp) _).alloc (by simp; omega) _).drew).trans (hb.mono (by simp; omega)); clear hb; simp only [cl]))
  go_wp2
  go_ret
  exact ⟨rfl, hB⟩
set_option maxHeartbeats 800000 in
theorem due_yes1 (f g : Nat → Int) (hb1 : 0 ≤ g 1 - 1) (hb2 : g 1 - 1 ≤ 4294967295) (hz' : (g 1 == 0) = false) (hq : (g 1 - 1 == f 1) = true) (w : World) :
    Calls Try.prog 60 #[.agg (cl f), .agg (cl g), .int .i64 1] w fun e w' => e = .returned (.bool (fl (join2 f (dec g 1)) == fl f)) ∧ Below w.heap.size w w' := by
  have E := eq_clk (join2 f (dec g 1)) f
  generalize (fl (join2 f (dec g 1)) == fl f) = b at *
  simp only [cl] at E ⊢
  go_enter Try.func60, Try.ntmps60
  go_wp2_with fail
  go_region_held3 (fun w' => w'.cell? ⟨w.heap.size, 0, none⟩ = some (.int .u32 (f 0)) ∧ w'.cell? ⟨w.heap.size, 1, none⟩ = some (.int .u32 (f 1)) ∧ w'.cell? ⟨w.heap.size, 2, none⟩ = some (.int .u32 (f 2)) ∧ w'.cell? ⟨w.heap.size, 3, none⟩ = some (.int .u32 (f 3)) ∧ w'.cell? ⟨w.heap.size, 4, none⟩ = some (.int .u32 (f 4)) ∧ w'.cell? ⟨w.heap.size, 5, none⟩ = some (.int .u32 (f 5)) ∧ w'.cell? ⟨w.heap.size, 6, none⟩ = some (.int .u32 (f 6)) ∧ w'.cell? ⟨w.heap.size, 7, none⟩ = some (.int .u32 (f 7)) ∧ w'.cell? ⟨w.heap.size + 1, 0, none⟩ = some (.int .u32 (g 0)) ∧ w'.cell? ⟨w.heap.size + 1, 1, none⟩ = some (.int .u32 (g 1 - 1)) ∧ w'.cell? ⟨w.heap.size + 1, 2, none⟩ = some (.int .u32 (g 2)) ∧ w'.cell? ⟨w.heap.size + 1, 3, none⟩ = some (.int .u32 (g 3)) ∧ w'.cell? ⟨w.heap.size + 1, 4, none⟩ = some (.int .u32 (g 4)) ∧ w'.cell? ⟨w.heap.size + 1, 5, none⟩ = some (.int .u32 (g 5)) ∧ w'.cell? ⟨w.heap.size + 1, 6, none⟩ = some (.int .u32 (g 6)) ∧ w'.cell? ⟨w.heap.size + 1, 7, none⟩ = some (.int .u32 (g 7))) (first | go_keep | exact ⟨f0,f1,f2,f3,f4,f5,f6,f7,g0,g1,g2,g3,g4,g5,g6,g7⟩) (first | (go_at_call 103; refine (join_row f (dec g 1) _ _ _ (heap3 _ _ _ _) (by simp [cl, dec])).mono ?_; rintro e w2 ⟨rfl, hb⟩; obtain ⟨f0, f1, f2, f3, f4, f5, f6, f7⟩ := cells8 ((hb.block w.heap.size (by simp; omega)).trans (heap3_0 w (.cells (cl f) 79) _ _)); obtain ⟨g0, g1, g2, g3, g4, g5, g6, g7⟩ := cells8 ((hb.block (w.heap.size + 1) (by simp)).trans (heap3_1 w _ (.cells (cl (dec g 1)) 79) _)); (simp only [dec] at g0 g1 g2 g3 g4 g5 g6 g7); have hB : Below w.heap.size w w2 := (((((Below.refl _ _).alloc (Nat.le_refl _) _).alloc (by simp) _).alloc (by simp; omega) _).drew).trans (hb.mono (by simp; omega)); clear hb; simp only [cl]))
  go_wp2
  go_ret
  exact ⟨rfl, hB⟩
set_option maxHeartbeats 800000 in
theorem due_yes2 (f g : Nat → Int) (hb1 : 0 ≤ g 2 - 1) (hb2 : g 2 - 1 ≤ 4294967295) (hz' : (g 2 == 0) = false) (hq : (g 2 - 1 == f 2) = true) (w : World) :
    Calls Try.prog 60 #[.agg (cl f), .agg (cl g), .int .i64 2] w fun e w' => e = .returned (.bool (fl (join2 f (dec g 2)) == fl f)) ∧ Below w.heap.size w w' := by
  have E := eq_clk (join2 f (dec g 2)) f
  generalize (fl (join2 f (dec g 2)) == fl f) = b at *
  simp only [cl] at E ⊢
  go_enter Try.func60, Try.ntmps60
  go_wp2_with fail
  go_region_held3 (fun w' => w'.cell? ⟨w.heap.size, 0, none⟩ = some (.int .u32 (f 0)) ∧ w'.cell? ⟨w.heap.size, 1, none⟩ = some (.int .u32 (f 1)) ∧ w'.cell? ⟨w.heap.size, 2, none⟩ = some (.int .u32 (f 2)) ∧ w'.cell? ⟨w.heap.size, 3, none⟩ = some (.int .u32 (f 3)) ∧ w'.cell? ⟨w.heap.size, 4, none⟩ = some (.int .u32 (f 4)) ∧ w'.cell? ⟨w.heap.size, 5, none⟩ = some (.int .u32 (f 5)) ∧ w'.cell? ⟨w.heap.size, 6, none⟩ = some (.int .u32 (f 6)) ∧ w'.cell? ⟨w.heap.size, 7, none⟩ = some (.int .u32 (f 7)) ∧ w'.cell? ⟨w.heap.size + 1, 0, none⟩ = some (.int .u32 (g 0)) ∧ w'.cell? ⟨w.heap.size + 1, 1, none⟩ = some (.int .u32 (g 1)) ∧ w'.cell? ⟨w.heap.size + 1, 2, none⟩ = some (.int .u32 (g 2 - 1)) ∧ w'.cell? ⟨w.heap.size + 1, 3, none⟩ = some (.int .u32 (g 3)) ∧ w'.cell? ⟨w.heap.size + 1, 4, none⟩ = some (.int .u32 (g 4)) ∧ w'.cell? ⟨w.heap.size + 1, 5, none⟩ = some (.int .u32 (g 5)) ∧ w'.cell? ⟨w.heap.size + 1, 6, none⟩ = some (.int .u32 (g 6)) ∧ w'.cell? ⟨w.heap.size + 1, 7, none⟩ = some (.int .u32 (g 7))) (first | go_keep | exact ⟨f0,f1,f2,f3,f4,f5,f6,f7,g0,g1,g2,g3,g4,g5,g6,g7⟩) (first | (go_at_call 103; refine (join_row f (dec g 2) _ _ _ (heap3 _ _ _ _) (by simp [cl, dec])).mono ?_; rintro e w2 ⟨rfl, hb⟩; obtain ⟨f0, f1, f2, f3, f4, f5, f6, f7⟩ := cells8 ((hb.block w.heap.size (by simp; omega)).trans (heap3_0 w (.cells (cl f) 79) _ _)); obtain ⟨g0, g1, g2, g3, g4, g5, g6, g7⟩ := cells8 ((hb.block (w.heap.size + 1) (by simp)).trans (heap3_1 w _ (.cells (cl (dec g 2)) 79) _)); (simp only [dec] at g0 g1 g2 g3 g4 g5 g6 g7); have hB : Below w.heap.size w w2 := (((((Below.refl _ _).alloc (Nat.le_refl _) _).alloc (by simp) _).alloc (by simp; omega) _).drew).trans (hb.mono (by simp; omega)); clear hb; simp only [cl]))
  go_wp2
  go_ret
  exact ⟨rfl, hB⟩
set_option maxHeartbeats 800000 in
theorem due_yes3 (f g : Nat → Int) (hb1 : 0 ≤ g 3 - 1) (hb2 : g 3 - 1 ≤ 4294967295) (hz' : (g 3 == 0) = false) (hq : (g 3 - 1 == f 3) = true) (w : World) :
    Calls Try.prog 60 #[.agg (cl f), .agg (cl g), .int .i64 3] w fun e w' => e = .returned (.bool (fl (join2 f (dec g 3)) == fl f)) ∧ Below w.heap.size w w' := by
  have E := eq_clk (join2 f (dec g 3)) f
  generalize (fl (join2 f (dec g 3)) == fl f) = b at *
  simp only [cl] at E ⊢
  go_enter Try.func60, Try.ntmps60
  go_wp2_with fail
  go_region_held3 (fun w' => w'.cell? ⟨w.heap.size, 0, none⟩ = some (.int .u32 (f 0)) ∧ w'.cell? ⟨w.heap.size, 1, none⟩ = some (.int .u32 (f 1)) ∧ w'.cell? ⟨w.heap.size, 2, none⟩ = some (.int .u32 (f 2)) ∧ w'.cell? ⟨w.heap.size, 3, none⟩ = some (.int .u32 (f 3)) ∧ w'.cell? ⟨w.heap.size, 4, none⟩ = some (.int .u32 (f 4)) ∧ w'.cell? ⟨w.heap.size, 5, none⟩ = some (.int .u32 (f 5)) ∧ w'.cell? ⟨w.heap.size, 6, none⟩ = some (.int .u32 (f 6)) ∧ w'.cell? ⟨w.heap.size, 7, none⟩ = some (.int .u32 (f 7)) ∧ w'.cell? ⟨w.heap.size + 1, 0, none⟩ = some (.int .u32 (g 0)) ∧ w'.cell? ⟨w.heap.size + 1, 1, none⟩ = some (.int .u32 (g 1)) ∧ w'.cell? ⟨w.heap.size + 1, 2, none⟩ = some (.int .u32 (g 2)) ∧ w'.cell? ⟨w.heap.size + 1, 3, none⟩ = some (.int .u32 (g 3 - 1)) ∧ w'.cell? ⟨w.heap.size + 1, 4, none⟩ = some (.int .u32 (g 4)) ∧ w'.cell? ⟨w.heap.size + 1, 5, none⟩ = some (.int .u32 (g 5)) ∧ w'.cell? ⟨w.heap.size + 1, 6, none⟩ = some (.int .u32 (g 6)) ∧ w'.cell? ⟨w.heap.size + 1, 7, none⟩ = some (.int .u32 (g 7))) (first | go_keep | exact ⟨f0,f1,f2,f3,f4,f5,f6,f7,g0,g1,g2,g3,g4,g5,g6,g7⟩) (first | (go_at_call 103; refine (join_row f (dec g 3) _ _ _ (heap3 _ _ _ _) (by simp [cl, dec])).mono ?_; rintro e w2 ⟨rfl, hb⟩; obtain ⟨f0, f1, f2, f3, f4, f5, f6, f7⟩ := cells8 ((hb.block w.heap.size (by simp; omega)).trans (heap3_0 w (.cells (cl f) 79) _ _)); obtain ⟨g0, g1, g2, g3, g4, g5, g6, g7⟩ := cells8 ((hb.block (w.heap.size + 1) (by simp)).trans (heap3_1 w _ (.cells (cl (dec g 3)) 79) _)); (simp only [dec] at g0 g1 g2 g3 g4 g5 g6 g7); have hB : Below w.heap.size w w2 := (((((Below.refl _ _).alloc (Nat.le_refl _) _).alloc (by simp) _).alloc (by simp; omega) _).drew).trans (hb.mono (by simp; omega)); clear hb; simp only [cl]))
  go_wp2
  go_ret
  exact ⟨rfl, hB⟩
set_option maxHeartbeats 800000 in
theorem due_yes4 (f g : Nat → Int) (hb1 : 0 ≤ g 4 - 1) (hb2 : g 4 - 1 ≤ 4294967295) (hz' : (g 4 == 0) = false) (hq : (g 4 - 1 == f 4) = true) (w : World) :
    Calls Try.prog 60 #[.agg (cl f), .agg (cl g), .int .i64 4] w fun e w' => e = .returned (.bool (fl (join2 f (dec g 4)) == fl f)) ∧ Below w.heap.size w w' := by
  have E := eq_clk (join2 f (dec g 4)) f
  generalize (fl (join2 f (dec g 4)) == fl f) = b at *
  simp only [cl] at E ⊢
  go_enter Try.func60, Try.ntmps60
  go_wp2_with fail
  go_region_held3 (fun w' => w'.cell? ⟨w.heap.size, 0, none⟩ = some (.int .u32 (f 0)) ∧ w'.cell? ⟨w.heap.size, 1, none⟩ = some (.int .u32 (f 1)) ∧ w'.cell? ⟨w.heap.size, 2, none⟩ = some (.int .u32 (f 2)) ∧ w'.cell? ⟨w.heap.size, 3, none⟩ = some (.int .u32 (f 3)) ∧ w'.cell? ⟨w.heap.size, 4, none⟩ = some (.int .u32 (f 4)) ∧ w'.cell? ⟨w.heap.size, 5, none⟩ = some (.int .u32 (f 5)) ∧ w'.cell? ⟨w.heap.size, 6, none⟩ = some (.int .u32 (f 6)) ∧ w'.cell? ⟨w.heap.size, 7, none⟩ = some (.int .u32 (f 7)) ∧ w'.cell? ⟨w.heap.size + 1, 0, none⟩ = some (.int .u32 (g 0)) ∧ w'.cell? ⟨w.heap.size + 1, 1, none⟩ = some (.int .u32 (g 1)) ∧ w'.cell? ⟨w.heap.size + 1, 2, none⟩ = some (.int .u32 (g 2)) ∧ w'.cell? ⟨w.heap.size + 1, 3, none⟩ = some (.int .u32 (g 3)) ∧ w'.cell? ⟨w.heap.size + 1, 4, none⟩ = some (.int .u32 (g 4 - 1)) ∧ w'.cell? ⟨w.heap.size + 1, 5, none⟩ = some (.int .u32 (g 5)) ∧ w'.cell? ⟨w.heap.size + 1, 6, none⟩ = some (.int .u32 (g 6)) ∧ w'.cell? ⟨w.heap.size + 1, 7, none⟩ = some (.int .u32 (g 7))) (first | go_keep | exact ⟨f0,f1,f2,f3,f4,f5,f6,f7,g0,g1,g2,g3,g4,g5,g6,g7⟩) (first | (go_at_call 103; refine (join_row f (dec g 4) _ _ _ (heap3 _ _ _ _) (by simp [cl, dec])).mono ?_; rintro e w2 ⟨rfl, hb⟩; obtain ⟨f0, f1, f2, f3, f4, f5, f6, f7⟩ := cells8 ((hb.block w.heap.size (by simp; omega)).trans (heap3_0 w (.cells (cl f) 79) _ _)); obtain ⟨g0, g1, g2, g3, g4, g5, g6, g7⟩ := cells8 ((hb.block (w.heap.size + 1) (by simp)).trans (heap3_1 w _ (.cells (cl (dec g 4)) 79) _)); (simp only [dec] at g0 g1 g2 g3 g4 g5 g6 g7); have hB : Below w.heap.size w w2 := (((((Below.refl _ _).alloc (Nat.le_refl _) _).alloc (by simp) _).alloc (by simp; omega) _).drew).trans (hb.mono (by simp; omega)); clear hb; simp only [cl]))
  go_wp2
  go_ret
  exact ⟨rfl, hB⟩
set_option maxHeartbeats 800000 in
theorem due_yes5 (f g : Nat → Int) (hb1 : 0 ≤ g 5 - 1) (hb2 : g 5 - 1 ≤ 4294967295) (hz' : (g 5 == 0) = false) (hq : (g 5 - 1 == f 5) = true) (w : World) :
    Calls Try.prog 60 #[.agg (cl f), .agg (cl g), .int .i64 5] w fun e w' => e = .returned (.bool (fl (join2 f (dec g 5)) == fl f)) ∧ Below w.heap.size w w' := by
  have E := eq_clk (join2 f (dec g 5)) f
  generalize (fl (join2 f (dec g 5)) == fl f) = b at *
  simp only [cl] at E ⊢
  go_enter Try.func60, Try.ntmps60
  go_wp2_with fail
  go_region_held3 (fun w' => w'.cell? ⟨w.heap.size, 0, none⟩ = some (.int .u32 (f 0)) ∧ w'.cell? ⟨w.heap.size, 1, none⟩ = some (.int .u32 (f 1)) ∧ w'.cell? ⟨w.heap.size, 2, none⟩ = some (.int .u32 (f 2)) ∧ w'.cell? ⟨w.heap.size, 3, none⟩ = some (.int .u32 (f 3)) ∧ w'.cell? ⟨w.heap.size, 4, none⟩ = some (.int .u32 (f 4)) ∧ w'.cell? ⟨w.heap.size, 5, none⟩ = some (.int .u32 (f 5)) ∧ w'.cell? ⟨w.heap.size, 6, none⟩ = some (.int .u32 (f 6)) ∧ w'.cell? ⟨w.heap.size, 7, none⟩ = some (.int .u32 (f 7)) ∧ w'.cell? ⟨w.heap.size + 1, 0, none⟩ = some (.int .u32 (g 0)) ∧ w'.cell? ⟨w.heap.size + 1, 1, none⟩ = some (.int .u32 (g 1)) ∧ w'.cell? ⟨w.heap.size + 1, 2, none⟩ = some (.int .u32 (g 2)) ∧ w'.cell? ⟨w.heap.size + 1, 3, none⟩ = some (.int .u32 (g 3)) ∧ w'.cell? ⟨w.heap.size + 1, 4, none⟩ = some (.int .u32 (g 4)) ∧ w'.cell? ⟨w.heap.size + 1, 5, none⟩ = some (.int .u32 (g 5 - 1)) ∧ w'.cell? ⟨w.heap.size + 1, 6, none⟩ = some (.int .u32 (g 6)) ∧ w'.cell? ⟨w.heap.size + 1, 7, none⟩ = some (.int .u32 (g 7))) (first | go_keep | exact ⟨f0,f1,f2,f3,f4,f5,f6,f7,g0,g1,g2,g3,g4,g5,g6,g7⟩) (first | (go_at_call 103; refine (join_row f (dec g 5) _ _ _ (heap3 _ _ _ _) (by simp [cl, dec])).mono ?_; rintro e w2 ⟨rfl, hb⟩; obtain ⟨f0, f1, f2, f3, f4, f5, f6, f7⟩ := cells8 ((hb.block w.heap.size (by simp; omega)).trans (heap3_0 w (.cells (cl f) 79) _ _)); obtain ⟨g0, g1, g2, g3, g4, g5, g6, g7⟩ := cells8 ((hb.block (w.heap.size + 1) (by simp)).trans (heap3_1 w _ (.cells (cl (dec g 5)) 79) _)); (simp only [dec] at g0 g1 g2 g3 g4 g5 g6 g7); have hB : Below w.heap.size w w2 := (((((Below.refl _ _).alloc (Nat.le_refl _) _).alloc (by simp) _).alloc (by simp; omega) _).drew).trans (hb.mono (by simp; omega)); clear hb; simp only [cl]))
  go_wp2
  go_ret
  exact ⟨rfl, hB⟩
set_option maxHeartbeats 800000 in
theorem due_yes6 (f g : Nat → Int) (hb1 : 0 ≤ g 6 - 1) (hb2 : g 6 - 1 ≤ 4294967295) (hz' : (g 6 == 0) = false) (hq : (g 6 - 1 == f 6) = true) (w : World) :
    Calls Try.prog 60 #[.agg (cl f), .agg (cl g), .int .i64 6] w fun e w' => e = .returned (.bool (fl (join2 f (dec g 6)) == fl f)) ∧ Below w.heap.size w w' := by
  have E := eq_clk (join2 f (dec g 6)) f
  generalize (fl (join2 f (dec g 6)) == fl f) = b at *
  simp only [cl] at E ⊢
  go_enter Try.func60, Try.ntmps60
  go_wp2_with fail
  go_region_held3 (fun w' => w'.cell? ⟨w.heap.size, 0, none⟩ = some (.int .u32 (f 0)) ∧ w'.cell? ⟨w.heap.size, 1, none⟩ = some (.int .u32 (f 1)) ∧ w'.cell? ⟨w.heap.size, 2, none⟩ = some (.int .u32 (f 2)) ∧ w'.cell? ⟨w.heap.size, 3, none⟩ = some (.int .u32 (f 3)) ∧ w'.cell? ⟨w.heap.size, 4, none⟩ = some (.int .u32 (f 4)) ∧ w'.cell? ⟨w.heap.size, 5, none⟩ = some (.int .u32 (f 5)) ∧ w'.cell? ⟨w.heap.size, 6, none⟩ = some (.int .u32 (f 6)) ∧ w'.cell? ⟨w.heap.size, 7, none⟩ = some (.int .u32 (f 7)) ∧ w'.cell? ⟨w.heap.size + 1, 0, none⟩ = some (.int .u32 (g 0)) ∧ w'.cell? ⟨w.heap.size + 1, 1, none⟩ = some (.int .u32 (g 1)) ∧ w'.cell? ⟨w.heap.size + 1, 2, none⟩ = some (.int .u32 (g 2)) ∧ w'.cell? ⟨w.heap.size + 1, 3, none⟩ = some (.int .u32 (g 3)) ∧ w'.cell? ⟨w.heap.size + 1, 4, none⟩ = some (.int .u32 (g 4)) ∧ w'.cell? ⟨w.heap.size + 1, 5, none⟩ = some (.int .u32 (g 5)) ∧ w'.cell? ⟨w.heap.size + 1, 6, none⟩ = some (.int .u32 (g 6 - 1)) ∧ w'.cell? ⟨w.heap.size + 1, 7, none⟩ = some (.int .u32 (g 7))) (first | go_keep | exact ⟨f0,f1,f2,f3,f4,f5,f6,f7,g0,g1,g2,g3,g4,g5,g6,g7⟩) (first | (go_at_call 103; refine (join_row f (dec g 6) _ _ _ (heap3 _ _ _ _) (by simp [cl, dec])).mono ?_; rintro e w2 ⟨rfl, hb⟩; obtain ⟨f0, f1, f2, f3, f4, f5, f6, f7⟩ := cells8 ((hb.block w.heap.size (by simp; omega)).trans (heap3_0 w (.cells (cl f) 79) _ _)); obtain ⟨g0, g1, g2, g3, g4, g5, g6, g7⟩ := cells8 ((hb.block (w.heap.size + 1) (by simp)).trans (heap3_1 w _ (.cells (cl (dec g 6)) 79) _)); (simp only [dec] at g0 g1 g2 g3 g4 g5 g6 g7); have hB : Below w.heap.size w w2 := (((((Below.refl _ _).alloc (Nat.le_refl _) _).alloc (by simp) _).alloc (by simp; omega) _).drew).trans (hb.mono (by simp; omega)); clear hb; simp only [cl]))
  go_wp2
  go_ret
  exact ⟨rfl, hB⟩
set_option maxHeartbeats 800000 in
theorem due_yes7 (f g : Nat → Int) (hb1 : 0 ≤ g 7 - 1) (hb2 : g 7 - 1 ≤ 4294967295) (hz' : (g 7 == 0) = false) (hq : (g 7 - 1 == f 7) = true) (w : World) :
    Calls Try.prog 60 #[.agg (cl f), .agg (cl g), .int .i64 7] w fun e w' => e = .returned (.bool (fl (join2 f (dec g 7)) == fl f)) ∧ Below w.heap.size w w' := by
  have E := eq_clk (join2 f (dec g 7)) f
  generalize (fl (join2 f (dec g 7)) == fl f) = b at *
  simp only [cl] at E ⊢
  go_enter Try.func60, Try.ntmps60
  go_wp2_with fail
  go_region_held3 (fun w' => w'.cell? ⟨w.heap.size, 0, none⟩ = some (.int .u32 (f 0)) ∧ w'.cell? ⟨w.heap.size, 1, none⟩ = some (.int .u32 (f 1)) ∧ w'.cell? ⟨w.heap.size, 2, none⟩ = some (.int .u32 (f 2)) ∧ w'.cell? ⟨w.heap.size, 3, none⟩ = some (.int .u32 (f 3)) ∧ w'.cell? ⟨w.heap.size, 4, none⟩ = some (.int .u32 (f 4)) ∧ w'.cell? ⟨w.heap.size, 5, none⟩ = some (.int .u32 (f 5)) ∧ w'.cell? ⟨w.heap.size, 6, none⟩ = some (.int .u32 (f 6)) ∧ w'.cell? ⟨w.heap.size, 7, none⟩ = some (.int .u32 (f 7)) ∧ w'.cell? ⟨w.heap.size + 1, 0, none⟩ = some (.int .u32 (g 0)) ∧ w'.cell? ⟨w.heap.size + 1, 1, none⟩ = some (.int .u32 (g 1)) ∧ w'.cell? ⟨w.heap.size + 1, 2, none⟩ = some (.int .u32 (g 2)) ∧ w'.cell? ⟨w.heap.size + 1, 3, none⟩ = some (.int .u32 (g 3)) ∧ w'.cell? ⟨w.heap.size + 1, 4, none⟩ = some (.int .u32 (g 4)) ∧ w'.cell? ⟨w.heap.size + 1, 5, none⟩ = some (.int .u32 (g 5)) ∧ w'.cell? ⟨w.heap.size + 1, 6, none⟩ = some (.int .u32 (g 6)) ∧ w'.cell? ⟨w.heap.size + 1, 7, none⟩ = some (.int .u32 (g 7 - 1))) (first | go_keep | exact ⟨f0,f1,f2,f3,f4,f5,f6,f7,g0,g1,g2,g3,g4,g5,g6,g7⟩) (first | (go_at_call 103; refine (join_row f (dec g 7) _ _ _ (heap3 _ _ _ _) (by simp [cl, dec])).mono ?_; rintro e w2 ⟨rfl, hb⟩; obtain ⟨f0, f1, f2, f3, f4, f5, f6, f7⟩ := cells8 ((hb.block w.heap.size (by simp; omega)).trans (heap3_0 w (.cells (cl f) 79) _ _)); obtain ⟨g0, g1, g2, g3, g4, g5, g6, g7⟩ := cells8 ((hb.block (w.heap.size + 1) (by simp)).trans (heap3_1 w _ (.cells (cl (dec g 7)) 79) _)); (simp only [dec] at g0 g1 g2 g3 g4 g5 g6 g7); have hB : Below w.heap.size w w2 := (((((Below.refl _ _).alloc (Nat.le_refl _) _).alloc (by simp) _).alloc (by simp; omega) _).drew).trans (hb.mono (by simp; omega)); clear hb; simp only [cl]))
  go_wp2
  go_ret
  exact ⟨rfl, hB⟩
theorem due_in (f g : Nat → Int) (hg : U32 g) (a : Nat) (ha : a < 8) (w : World) :
    Calls Try.prog 60 #[.agg (cl f), .agg (cl g), .int .i64 a] w fun e w' => e = .returned (.bool (dueOf f g a)) ∧ Below w.heap.size w w' := by
  by_cases hz : g a = 0
  · have h : dueOf f g a = false := by simp [dueOf, hz]
    rw [h]; exact due_zero f g a ha hz w
  · have hz' : (g a == 0) = false := by simp [hz]
    have hb1 : 0 ≤ g a - 1 := by have := (hg a).1; omega
    have hb2 : g a - 1 ≤ 4294967295 := by have := (hg a).2; omega
    by_cases hq : g a - 1 = f a
    · have hq' : (g a - 1 == f a) = true := by simp [hq]
      have h : dueOf f g a = (fl (join2 f (dec g a)) == fl f) := by simp [dueOf, hz, hq]
      rw [h]
      rcases (by omega : a = 0 ∨ a = 1 ∨ a = 2 ∨ a = 3 ∨ a = 4 ∨ a = 5 ∨ a = 6 ∨ a = 7) with rfl | rfl | rfl | rfl | rfl | rfl | rfl | rfl
      · exact due_yes0 f g hb1 hb2 hz' hq' w
      · exact due_yes1 f g hb1 hb2 hz' hq' w
      · exact due_yes2 f g hb1 hb2 hz' hq' w
      · exact due_yes3 f g hb1 hb2 hz' hq' w
      · exact due_yes4 f g hb1 hb2 hz' hq' w
      · exact due_yes5 f g hb1 hb2 hz' hq' w
      · exact due_yes6 f g hb1 hb2 hz' hq' w
      · exact due_yes7 f g hb1 hb2 hz' hq' w
    · have hq' : (g a - 1 == f a) = false := by simp [hq]
      have h : dueOf f g a = false := by simp [dueOf, hq]
      rw [h]
      rcases (by omega : a = 0 ∨ a = 1 ∨ a = 2 ∨ a = 3 ∨ a = 4 ∨ a = 5 ∨ a = 6 ∨ a = 7) with rfl | rfl | rfl | rfl | rfl | rfl | rfl | rfl
      · exact due_not0 f g hb1 hb2 hz' hq' w
      · exact due_not1 f g hb1 hb2 hz' hq' w
      · exact due_not2 f g hb1 hb2 hz' hq' w
      · exact due_not3 f g hb1 hb2 hz' hq' w
      · exact due_not4 f g hb1 hb2 hz' hq' w
      · exact due_not5 f g hb1 hb2 hz' hq' w
      · exact due_not6 f g hb1 hb2 hz' hq' w
      · exact due_not7 f g hb1 hb2 hz' hq' w
theorem due_any (f g : Nat → Int) (hg : U32 g) (a : Int) (w : World) :
    Calls Try.prog 60 #[.agg (cl f), .agg (cl g), .int .i64 a] w fun e w' => e = .returned (.bool (dueB f g a)) ∧ Below w.heap.size w w' := by
  by_cases ha : a < 0 ∨ 8 ≤ a
  · have h : dueB f g a = false := by simp [dueB, ha]
    rw [h]; exact due_out f g a ha w
  · have h : dueB f g a = dueOf f g a.toNat := by simp [dueB, ha]
    obtain ⟨n, rfl⟩ := Int.eq_ofNat_of_zero_le (show 0 ≤ a by omega)
    rw [h, Int.toNat_natCast]; exact due_in f g hg n (by omega) w
end
end Ck
namespace Ck
section
open Go.RowKit
/-- a clock written out -/
def clk (l : List Int) : Nat → Int := fun i => l.getD i 0
theorem u32_clk (l : List Int) (h : ∀ x ∈ l, 0 ≤ x ∧ x ≤ 4294967295) : U32 (clk l) := by
  intro j
  unfold clk
  by_cases hj : j < l.length
  · have e : l.getD j 0 = l[j] := by simp [List.getElem?_eq_getElem hj]
    rw [e]; exact h _ (List.getElem_mem hj)
  · have e : l.getD j 0 = 0 := by simp [List.getElem?_eq_none (show l.length ≤ j by omega)]
    rw [e]; omega
theorem lacks_lit (W : World) : Calls Try.prog 59 #[.agg #[.int .u32 1, .int .u32 4, .int .u32 0, .int .u32 0, .int .u32 0, .int .u32 0, .int .u32 0, .int .u32 0], .agg #[.int .u32 3, .int .u32 2, .int .u32 0, .int .u32 0, .int .u32 0, .int .u32 0, .int .u32 0, .int .u32 0]] W
    fun e w' => ∃ v, e = .returned v ∧ LRel W (clk [1, 4]) (clk [3, 2]) 8 v w' := lacks_any (clk [1, 4]) (clk [3, 2]) (u32_clk _ (by decide)) (u32_clk _ (by decide)) W
theorem order1_lit (W : World) : Calls Try.prog 57 #[.agg #[.int .u32 1, .int .u32 0, .int .u32 0, .int .u32 0, .int .u32 0, .int .u32 0, .int .u32 0, .int .u32 0], .agg #[.int .u32 1, .int .u32 2, .int .u32 0, .int .u32 0, .int .u32 0, .int .u32 0, .int .u32 0, .int .u32 0]] W
    fun e w' => e = .returned (.int .i64 (-1)) ∧ Below W.heap.size W w' := by
  have h := order_any (clk [1]) (clk [1, 2]) W
  rw [show orderOf (clk [1]) (clk [1, 2]) = -1 by decide] at h
  exact h
theorem order2_lit (W : World) : Calls Try.prog 57 #[.agg #[.int .u32 1, .int .u32 0, .int .u32 0, .int .u32 0, .int .u32 0, .int .u32 0, .int .u32 0, .int .u32 0], .agg #[.int .u32 0, .int .u32 1, .int .u32 0, .int .u32 0, .int .u32 0, .int .u32 0, .int .u32 0, .int .u32 0]] W
    fun e w' => e = .returned (.int .i64 2) ∧ Below W.heap.size W w' := by
  have h := order_any (clk [1]) (clk [0, 1]) W
  rw [show orderOf (clk [1]) (clk [0, 1]) = 2 by decide] at h
  exact h
theorem order3_lit (W : World) : Calls Try.prog 57 #[.agg #[.int .u32 1, .int .u32 2, .int .u32 0, .int .u32 0, .int .u32 0, .int .u32 0, .int .u32 0, .int .u32 0], .agg #[.int .u32 1, .int .u32 0, .int .u32 0, .int .u32 0, .int .u32 0, .int .u32 0, .int .u32 0, .int .u32 0]] W
    fun e w' => e = .returned (.int .i64 1) ∧ Below W.heap.size W w' := by
  have h := order_any (clk [1, 2]) (clk [1]) W
  rw [show orderOf (clk [1, 2]) (clk [1]) = 1 by decide] at h
  exact h
theorem due_lit (W : World) : Calls Try.prog 60 #[.agg #[.int .u32 1, .int .u32 0, .int .u32 0, .int .u32 0, .int .u32 0, .int .u32 0, .int .u32 0, .int .u32 0], .agg #[.int .u32 1, .int .u32 1, .int .u32 0, .int .u32 0, .int .u32 0, .int .u32 0, .int .u32 0, .int .u32 0], .int .i64 1] W
    fun e w' => e = .returned (.bool true) ∧ Below W.heap.size W w' := by
  have h := due_any (clk [1]) (clk [1, 1]) (u32_clk _ (by decide)) 1 W
  rw [show dueB (clk [1]) (clk [1, 1]) 1 = true by decide] at h
  exact h
theorem join_lit (b : Nat) (X : World) (hX : X.heap[b]? = some (.cells (cl (clk [1]) ++ cl (clk [0, 1])) 79 (0, 0))) : Calls Try.prog 103 #[.slice (some ⟨b, 0, none⟩) 2 2] X
    fun e w' => e = .returned (.agg #[.int .u32 1, .int .u32 1, .int .u32 0, .int .u32 0, .int .u32 0, .int .u32 0, .int .u32 0, .int .u32 0]) ∧ Below X.heap.size X w' := by
  refine (join_row (clk [1]) (clk [0, 1]) b _ X hX rfl).mono ?_
  rintro e w' ⟨rfl, hb⟩
  exact ⟨rfl, hb⟩
theorem eqIn_clk (f g : Nat → Int) (W : World) : (Op.equalIn 10000 79 (.agg (cl f)) (.agg (cl g))).run Try.prog W = .ok (fl f == fl g) W := by
  rw [cl_fl, cl_fl]
  obtain ⟨i, hi, h1⟩ : ∃ i, Try.prog.info? 35 = some i ∧ i.size = 1 := ⟨_, rfl, by kernel_rfl⟩
  exact run_equalIn_ints 9998 79 35 8 .u32 .u32 i _ _ Try.underlying79 Try.underlying35 hi h1 rfl rfl W
theorem eq_lit (W : World) : (Op.equalIn 10000 79 (.agg #[.int .u32 1, .int .u32 1, .int .u32 0, .int .u32 0, .int .u32 0, .int .u32 0, .int .u32 0, .int .u32 0]) (.agg #[.int .u32 1, .int .u32 1, .int .u32 0, .int .u32 0, .int .u32 0, .int .u32 0, .int .u32 0, .int .u32 0])).run Try.prog W = .ok true W :=
  eqIn_clk (clk [1, 1]) (clk [1, 1]) W
/-- what alive keeps: three clocks, and the spans -/
structure AL (w : World) (g : Nat) (X : World) : Prop where
  b0 : X.heap[w.heap.size]? = some (.cells (cl (clk [1])) 79 (0, 0))
  b1 : X.heap[w.heap.size + 1]? = some (.cells (cl (clk [1, 2])) 79 (0, 0))
  b2 : X.heap[w.heap.size + 1 + 1]? = some (.cells (cl (clk [0, 1])) 79 (0, 0))
  g0 : X.cell? ⟨g, 0, none⟩ = some (.int .i64 0)
  g1 : X.cell? ⟨g, 1, none⟩ = some (.int .u32 2)
  g2 : X.cell? ⟨g, 2, none⟩ = some (.int .u32 3)
  below : Below w.heap.size w X
  gs : g < X.heap.size
  size : w.heap.size + 3 ≤ X.heap.size
theorem AL.next {w X X' : World} {g : Nat} (h : AL w g X) (hb : Below X.heap.size X X') : AL w g X' :=
  ⟨(hb.block _ (by have := h.size; omega)).trans h.b0, (hb.block _ (by have := h.size; omega)).trans h.b1, (hb.block _ (by have := h.size; omega)).trans h.b2,
   (hb.cell (p := ⟨g, 0, none⟩) h.gs).trans h.g0, (hb.cell (p := ⟨g, 1, none⟩) h.gs).trans h.g1, (hb.cell (p := ⟨g, 2, none⟩) h.gs).trans h.g2,
   h.below.trans (hb.mono (by have := h.size; omega)), by have := h.gs; have := hb.size; omega, by have := h.size; have := hb.size; omega⟩
theorem AL.start {w : World} {v : Value} {X : World} (h : LRel (((w.alloc (.cells (cl (clk [1])) 79)).alloc (.cells (cl (clk [1, 2])) 79)).alloc (.cells (cl (clk [0, 1])) 79)) (clk [1, 4]) (clk [3, 2]) 8 v X) :
    ∃ g cap, v = .slice (some ⟨g, 0, none⟩) 1 cap ∧ AL w g X := by
  have hown := h.own
  have hN : lacksN (clk [1, 4]) (clk [3, 2]) 8 = 1 := by decide
  have hT : lacksTo (clk [1, 4]) (clk [3, 2]) 8 = [.int .i64 0, .int .u32 2, .int .u32 3] := by simp [lacksTo, spanCells, clk]
  rw [hN, hT] at hown
  have hsz := h.size
  simp at hsz
  rcases hown.2 with ⟨_, h0⟩ | ⟨g, cap, cur, hv, hg, hh, hc, _, hcs, ht⟩
  · cases h0
  · have hl : g < X.heap.size := by
      rcases Nat.lt_or_ge g X.heap.size with hlt | hge
      · exact hlt
      · rw [Array.getElem?_eq_none hge] at hh; cases hh
    have hcell : ∀ j, j < 3 → X.cell? ⟨g, j, none⟩ = ([.int .i64 0, .int .u32 2, .int .u32 3] : List Value)[j]? := by
      intro j hj
      rw [cell_of_row _ _ _ _ _ _ hh, ← ht]
      simp [hj]
    refine ⟨g, cap, hv, (h.below.block _ (by simp only [World.size_alloc]; omega)).trans ?_, (h.below.block _ (by simp only [World.size_alloc]; omega)).trans ?_, (h.below.block _ (by simp only [World.size_alloc]; omega)).trans ?_, hcell 0 (by omega), hcell 1 (by omega), hcell 2 (by omega), ?_, hl, by omega⟩
    · rw [Below.heap_alloc _ _ _ (by simp only [World.size_alloc]; omega)]; exact heap_alloc2_old _ _ _
    · rw [Below.heap_alloc _ _ _ (by simp only [World.size_alloc]; omega)]; exact heap_alloc2_new _ _ _
    · have := heap_alloc_new ((w.alloc (.cells (cl (clk [1])) 79)).alloc (.cells (cl (clk [1, 2])) 79)) (.cells (cl (clk [0, 1])) 79)
      simpa using this
    · exact ((((Below.refl _ _).alloc (Nat.le_refl _) _).alloc (by simp) _).alloc (by simp; omega) _).trans (h.below.mono (by simp; omega))
set_option maxHeartbeats 800000 in
set_option maxRecDepth 100000 in
theorem alive_any (w : World) : Calls Try.prog 52 #[] w fun e w' => e = .returned (.bool true) ∧ Below w.heap.size w w' := by
  go_enter Try.func52, Try.ntmps52
  go_wp2_with fail
  refine (lacks_lit _).mono ?_
  rintro e X ⟨v, rfl, hL⟩
  obtain ⟨g, cap, rfl, hA⟩ := AL.start hL
  clear hL
  obtain ⟨c0, c1, c2, c3, c4, c5, c6, c7⟩ := cells8 hA.b0
  obtain ⟨d0, d1, d2, d3, d4, d5, d6, d7⟩ := cells8 hA.b1
  obtain ⟨e0, e1, e2, e3, e4, e5, e6, e7⟩ := cells8 hA.b2
  simp only [clk, List.getD_cons_zero, List.getD_cons_succ, List.getD_nil] at c0 c1 c2 c3 c4 c5 c6 c7 d0 d1 d2 d3 d4 d5 d6 d7 e0 e1 e2 e3 e4 e5 e6 e7
  go_wp2_with fail
  refine (order1_lit _).mono ?_
  clear c0 c1 c2 c3 c4 c5 c6 c7 d0 d1 d2 d3 d4 d5 d6 d7 e0 e1 e2 e3 e4 e5 e6 e7
  rintro e X1 ⟨rfl, hb⟩
  replace hA := hA.next hb
  clear hb
  obtain ⟨c0, c1, c2, c3, c4, c5, c6, c7⟩ := cells8 hA.b0
  obtain ⟨d0, d1, d2, d3, d4, d5, d6, d7⟩ := cells8 hA.b1
  obtain ⟨e0, e1, e2, e3, e4, e5, e6, e7⟩ := cells8 hA.b2
  simp only [clk, List.getD_cons_zero, List.getD_cons_succ, List.getD_nil] at c0 c1 c2 c3 c4 c5 c6 c7 d0 d1 d2 d3 d4 d5 d6 d7 e0 e1 e2 e3 e4 e5 e6 e7
  go_wp2_with fail
  refine (order2_lit _).mono ?_
  clear c0 c1 c2 c3 c4 c5 c6 c7 d0 d1 d2 d3 d4 d5 d6 d7 e0 e1 e2 e3 e4 e5 e6 e7
  rintro e X2 ⟨rfl, hb⟩
  replace hA := hA.next hb
  clear hb
  obtain ⟨c0, c1, c2, c3, c4, c5, c6, c7⟩ := cells8 hA.b0
  obtain ⟨d0, d1, d2, d3, d4, d5, d6, d7⟩ := cells8 hA.b1
  obtain ⟨e0, e1, e2, e3, e4, e5, e6, e7⟩ := cells8 hA.b2
  simp only [clk, List.getD_cons_zero, List.getD_cons_succ, List.getD_nil] at c0 c1 c2 c3 c4 c5 c6 c7 d0 d1 d2 d3 d4 d5 d6 d7 e0 e1 e2 e3 e4 e5 e6 e7
  go_wp2_with fail
  refine (order3_lit _).mono ?_
  clear c0 c1 c2 c3 c4 c5 c6 c7 d0 d1 d2 d3 d4 d5 d6 d7 e0 e1 e2 e3 e4 e5 e6 e7
  rintro e X3 ⟨rfl, hb⟩
  replace hA := hA.next hb
  clear hb
  obtain ⟨c0, c1, c2, c3, c4, c5, c6, c7⟩ := cells8 hA.b0
  obtain ⟨d0, d1, d2, d3, d4, d5, d6, d7⟩ := cells8 hA.b1
  obtain ⟨e0, e1, e2, e3, e4, e5, e6, e7⟩ := cells8 hA.b2
  simp only [clk, List.getD_cons_zero, List.getD_cons_succ, List.getD_nil] at c0 c1 c2 c3 c4 c5 c6 c7 d0 d1 d2 d3 d4 d5 d6 d7 e0 e1 e2 e3 e4 e5 e6 e7
  go_wp2_with fail
  refine (join_lit _ _ (heap_alloc_new _ _)).mono ?_
  clear c0 c1 c2 c3 c4 c5 c6 c7 d0 d1 d2 d3 d4 d5 d6 d7 e0 e1 e2 e3 e4 e5 e6 e7
  rintro e X4 ⟨rfl, hb⟩
  replace hA := (hA.next ((Below.refl _ _).alloc (Nat.le_refl _) _)).next hb
  clear hb
  obtain ⟨c0, c1, c2, c3, c4, c5, c6, c7⟩ := cells8 hA.b0
  obtain ⟨d0, d1, d2, d3, d4, d5, d6, d7⟩ := cells8 hA.b1
  obtain ⟨e0, e1, e2, e3, e4, e5, e6, e7⟩ := cells8 hA.b2
  simp only [clk, List.getD_cons_zero, List.getD_cons_succ, List.getD_nil] at c0 c1 c2 c3 c4 c5 c6 c7 d0 d1 d2 d3 d4 d5 d6 d7 e0 e1 e2 e3 e4 e5 e6 e7
  have q := eq_lit
  have s0 := hA.g0
  have s1 := hA.g1
  have s2 := hA.g2
  go_wp2_with fail
  refine (due_lit _).mono ?_
  rintro e X5 ⟨rfl, hb⟩
  replace hA := hA.next hb
  go_wp2
  go_ret
  exact ⟨rfl, hA.below⟩
end
end Ck
section
section
variable {P : Program} {nro n base base' : Nat} {γ : Nat → Option Nat} {m m' : List Ent} {H H' : AH} {w w' : World} {Q : Value → AH → Prop}
theorem Rel.thaw (h1 : Rel nro base γ m H w') (h2 : Rel H.length base' γ m' H' w') (hm : m <+: m') (hl : ∀ j, j < H.length → hget H' j = hget H j) (hle : H.length ≤ H'.length) (hb : ∀ (i : Nat) (e : Ent), m[i]? = some e → e.b < base') (hbb : base ≤ base') : Rel nro base γ m' H' w' := by
  have hml := h1.len
  have old : ∀ (i : Nat) (e : Ent), i < H.length → m'[i]? = some e → m[i]? = some e := fun i e hi he => by
    obtain ⟨r, rfl⟩ := hm
    rwa [List.getElem?_append_left (by omega)] at he
  have oldH : ∀ (i : Nat) (k : Blk), i < H.length → H'[i]? = some (some k) → H[i]? = some (some k) := fun i k hi hk => by
    have h3 := hl i hi
    unfold hget at h3
    rw [hk, List.getElem?_eq_getElem hi] at h3
    simp at h3
    rw [List.getElem?_eq_getElem hi, ← h3]
  refine ⟨h2.len, Nat.le_trans h1.le hle, h1.base_le, h2.inb, fun i e hi he => h1.ro i e hi (old i e (Nat.lt_of_lt_of_le hi h1.le) he), fun i e hi he => ?_, h2.maps, fun i k e hk hn he => ?_, fun i j ki kj ei ej hi hj hij hki hkj hei hej => ?_, h2.glob⟩
  · rcases Nat.lt_or_ge i H.length with h | h
    · exact h1.own i e hi (old i e h he)
    · have := h2.own i e h he
      exact ⟨by omega, this.2⟩
  · rcases Nat.lt_or_ge i H.length with h | h
    · obtain ⟨cs, fr, a, b, c, d, f⟩ := h1.cells i k e (oldH i k h hk) hn (old i e h he)
      refine ⟨cs, fr, a, b, c, d, fun j x hx => ?_⟩
      obtain ⟨y, hy, hv⟩ := f j x hx
      exact ⟨y, hy, hv.mono hm⟩
    · obtain ⟨cs, fr, a, b, c, d, f⟩ := h2.cells i k e hk hn he
      exact ⟨cs, fr, a, fun _ => b h, c, fun _ => d h, f⟩
  · rcases Nat.lt_or_ge i H.length with h | h
    · have e1 := old i ei h hei
      rcases Nat.lt_or_ge j H.length with h' | h'
      · exact h1.apart i j ki kj ei ej hi hj hij (oldH i ki h hki) (oldH j kj h' hkj) e1 (old j ej h' hej)
      · have := hb i ei e1
        have := (h2.own j ej h' hej).1
        omega
    · rcases Nat.lt_or_ge j H.length with h' | h'
      · have := hb j ej (old j ej h' hej)
        have := (h2.own i ei h hei).1
        omega
      · exact h2.apart i j ki kj ei ej h h' hij hki hkj hei hej
/-- What a function answers that only reads what is there, called where it may be turned behind. -/
theorem AC.thaw {f : FuncId} {args : Array Value} (h : AC P H.length γ f args H Q) (hq : ∀ v H', Q v H' → H.length ≤ H'.length ∧ ∀ j, j < H.length → hget H' j = hget H j) : AC P nro γ f args H Q := by
  intro m base w args' hR hsz hva
  refine (h m w.heap.size w args' hR.freeze hsz hva).mono ?_
  rintro e w' ⟨m', v1, v', H', rfl, hm, hv', hR', hb, hQ⟩
  obtain ⟨h1, h2⟩ := hq _ _ hQ
  exact ⟨m', v1, v', H', rfl, hm, hv', (hR.below hb).thaw hR' hm h2 h1 hR.inb hR.base_le, hb.mono hR.base_le, hQ⟩
end
end
section
/-- Those orders that begin with an operation, without it. -/
def behind (i : Nat) : List (List Nat) → List (List Nat)
  | [] => []
  | (j :: l) :: os => if j = i then l :: behind i os else behind i os
  | [] :: os => behind i os
def ordersB (ops : Array Oper) : Nat → Array Bool → List (List Nat) → Bool
  | 0, listed, os => (Region.ready .any ops listed).isEmpty && os.contains []
  | f + 1, listed, os => !(Region.ready .any ops listed).isEmpty && (Region.ready .any ops listed).all fun i => ordersB ops f (listed.setIfInBounds i true) (behind i os)
theorem behind_mem {i : Nat} {o : List Nat} : ∀ {os : List (List Nat)}, o ∈ behind i os → (i :: o) ∈ os
  | [] :: os, h => by simp only [behind] at h; exact List.mem_cons_of_mem _ (behind_mem h)
  | (j :: l) :: os, h => by
    simp only [behind] at h
    split at h
    · rename_i e
      subst e
      rcases List.mem_cons.1 h with rfl | h
      · exact List.mem_cons_self
      · exact List.mem_cons_of_mem _ (behind_mem h)
    · exact List.mem_cons_of_mem _ (behind_mem h)
section
variable {P : Program} {nro n base : Nat} {γ : Nat → Option Nat} {m : List Ent} {H : AH} {α : Fm} {a : Act} {w : World} {Q : Exit → Fm → AH → Prop} {ops : Array Oper}
theorem orders_ne {ops : Array Oper} : ∀ (f : Nat) (listed : Array Bool) (os : List (List Nat)), ordersB ops f listed os = true → ∃ o, o ∈ os
  | 0, listed, os, h => by simp only [ordersB, Bool.and_eq_true, List.contains_iff_mem] at h; exact ⟨_, h.2⟩
  | f + 1, listed, os, h => by
    simp only [ordersB, Bool.and_eq_true] at h
    cases hr : Region.ready .any ops listed with
    | nil => rw [hr] at h; simp at h
    | cons i rs =>
      rw [hr] at h
      simp only [List.all_cons, Bool.and_eq_true] at h
      obtain ⟨o, ho⟩ := orders_ne f _ _ h.2.1
      exact ⟨_, behind_mem ho⟩
end
end
section
def headsO : List (List Nat) → List Nat
  | [] => []
  | (j :: _) :: os => if (headsO os).contains j then headsO os else j :: headsO os
  | [] :: os => headsO os
theorem headsO_mem {i : Nat} {o : List Nat} : ∀ {os : List (List Nat)}, (i :: o) ∈ os → i ∈ headsO os
  | [] :: os, h => by
    rcases List.mem_cons.1 h with h | h
    · cases h
    · exact headsO_mem (os := os) h
  | (j :: l) :: os, h => by
    unfold headsO
    rcases List.mem_cons.1 h with h | h
    · cases h
      split
      · rename_i hc; simpa using hc
      · simp
    · have := headsO_mem (os := os) h
      split
      · exact this
      · exact List.mem_cons_of_mem _ this
def XLk (P : Program) (nro : Nat) (γ : Nat → Option Nat) (r : St) (d : Option Tmp) (α : Fm) (H : AH) (k : Fm → AH → Prop) : Prop :=
  match r with
  | .no => False
  | .val v H' => k (α.put d v) H'
  | .call f args => callable P f = true ∧ AC P nro γ f args H fun v H' => k (α.put d v) H'
def XO (P : Program) (nro n : Nat) (γ : Nat → Option Nat) (ops : Array Oper) (K : Fm → AH → Prop) (l : List Oper) : Nat → List (List Nat) → Fm → AH → Prop
  | 0, _, α, H => K α H
  | f + 1, os, α, H => ∀ i ∈ headsO os, match l[i]? with
    | none => False
    | some o => XLk P nro γ (step1 P nro n γ ops o α H) o.dst α H (XO P nro n γ ops K l f (behind i os))
section
variable {P : Program} {nro n base : Nat} {γ : Nat → Option Nat} {m : List Ent} {H : AH} {α : Fm} {a : Act} {w : World} {Q : Exit → Fm → AH → Prop} {ops : Array Oper}
theorem XO_z {K : Fm → AH → Prop} {l : List Oper} {os : List (List Nat)} : XO P nro n γ ops K l 0 os α H = K α H := rfl
theorem XO_s {K : Fm → AH → Prop} {l : List Oper} {f : Nat} {os : List (List Nat)} : XO P nro n γ ops K l (f + 1) os α H = ∀ i ∈ headsO os, match l[i]? with
    | none => False
    | some o => XLk P nro γ (step1 P nro n γ ops o α H) o.dst α H (XO P nro n γ ops K l f (behind i os)) := rfl
theorem XLk_val {v : Value} {H' : AH} {d : Option Tmp} {k : Fm → AH → Prop} : XLk P nro γ (.val v H') d α H k = k (α.put d v) H' := rfl
theorem XLk_call {f : FuncId} {args : Array Value} {d : Option Tmp} {k : Fm → AH → Prop} : XLk P nro γ (.call f args) d α H k = (callable P f = true ∧ AC P nro γ f args H fun v H' => k (α.put d v) H') := rfl
end
end
section
def pureTreeB (ops : Array Oper) (F : Nat) (os : List (List Nat)) : List Nat → Array Bool → Bool
  | [], listed => ordersB ops F listed os
  | i :: is, listed => (Region.ready .any ops listed).contains i && Region.free .any ops listed i && (match ops[i]? with | some o => pureOp o.op | none => false) && pureTreeB ops F os is (listed.setIfInBounds i true)
def ptreeB (ops : Array Oper) (ps : List Nat) (F : Nat) (os : List (List Nat)) : Bool :=
  Region.noSelect ops && decide (ps.length + F = ops.size) && pureTreeB ops F os ps (Array.replicate ops.size false)
section
variable {P : Program} {nro n base : Nat} {γ : Nat → Option Nat} {m : List Ent} {H : AH} {α : Fm} {a : Act} {w : World} {Q : Exit → Fm → AH → Prop} {ops : Array Oper}
theorem tree_runG {l : List Oper} (hl : l.toArray = ops) (hok : okL n γ l = true) {K : Fm → AH → Prop} {w0 : World} {m0 : List Ent} {Q' : Exit → Act → World → Prop} (hK : ∀ m α H a w, m0 <+: m → Rel nro base γ m H w → FR n m α a → Below base w0 w → K α H → Q' .normal a w) : ∀ (f : Nat) (listed : Array Bool) (os : List (List Nat)) (α : Fm) (H : AH) (m : List Ent) (w : World) (a : Act),
    ordersB ops f listed os = true → XO P nro n γ ops K l f os α H → m0 <+: m → Rel nro base γ m H w → FR n m α a → Below base w0 w → wpAny P .any ops Q' f listed a w
  | 0, listed, os, α, H, m, w, a, hB, h, hm, hR, hF, hb => by
    simp only [ordersB, Bool.and_eq_true, List.contains_iff_mem, List.isEmpty_iff] at hB
    exact ⟨hB.1, hK m α H a w hm hR hF hb h⟩
  | f + 1, listed, os, α, H, m, w, a, hB, h, hm, hR, hF, hb => by
    simp only [ordersB, Bool.and_eq_true] at hB
    refine ⟨fun h0 => (by rw [h0] at hB; simp at hB), fun i hi => ?_⟩
    have hBi := List.all_eq_true.1 hB.2 i hi
    obtain ⟨_, o, ho, _⟩ := mem_ready.1 hi
    have hli : l[i]? = some o := by rw [← ho, ← hl]; simp
    have hmem := List.mem_of_getElem? hli
    have hoko : o.op.operands.all (okOpd n γ) = true := List.all_eq_true.1 hok o hmem
    obtain ⟨r0, hr0⟩ := orders_ne f _ _ hBi
    have hstep : XLk P nro γ (step1 P nro n γ ops o α H) o.dst α H (XO P nro n γ ops K l f (behind i os)) := by
      have := h i (headsO_mem (behind_mem hr0))
      rw [hli] at this
      exact this
    rw [step1_eq] at hstep
    unfold wpOp
    simp only [ho]
    have fin : ∀ (v : Value) (v' : Value) (m' : List Ent) (H' : AH) (w' : World), m <+: m' → V m' v v' → Rel nro base γ m' H' w' → Below base w w' → XO P nro n γ ops K l f (behind i os) (α.put o.dst v) H' →
        wpAny P .any ops Q' f (listed.setIfInBounds i true) (a.put o.dst v') w' := fun v v' m' H' w' h1 h2 h3 h4 h5 =>
      tree_runG hl hok hK f _ _ _ _ m' w' _ hBi h5 (hm.trans h1) h3 ((hF.mono h1).put h2) (hb.trans h4)
    cases hw : wantedA ops n α o with
    | none => rw [hw] at hstep; exact hstep.elim
    | some b =>
      rw [wantedA_spec hF hw]
      cases b with
      | false =>
        simp only [Bool.false_eq_true, if_false]
        rw [hw] at hstep
        exact fin undef undef m H w List.prefix_rfl (plainV_mk plainV_undef) hR (.refl _ _) hstep
      | true =>
        rw [hw, stepW_t] at hstep
        simp only [if_true]
        refine .inl ?_
        unfold Oper.wp
        cases hc : calleeOf γ α o.op with
        | some c =>
          obtain ⟨cf, cargs⟩ := c
          rw [hc, stepC_s, XLk_call] at hstep
          obtain ⟨hcal, hac⟩ := hstep
          obtain ⟨xs, ts, hop, rfl⟩ := callee_ops hc
          have hxs : xs.all (okOpd n γ) = true := by
            have := hoko
            rw [hop] at this
            rw [Array.all_eq_true] at this ⊢
            intro i hi
            have := this (i + 1) (by simp [Op.operands, Call.operands]; omega)
            simpa [Op.operands, Call.operands, Array.getElem_append] using this
          obtain ⟨h1, h2⟩ := args_rel hR hF hxs
          rcases hac m base w (xs.map a.eval) hR h1 h2 with ⟨hbd, hac'⟩ | ⟨v0, hrun, m', v, v', H', he, hm', hv, hR', hb', hx⟩
          · rw [call_run hop hcal hbd, Oper.upon_enter]
            refine hac'.mono ?_
            rintro e w' ⟨m', v, v', H', rfl, hm', hv, hR', hb', hx⟩
            exact fin v v' m' H' w' hm' hv hR' hb' hx
          · cases he
            rw [call_runV hop hrun, Oper.upon_value]
            exact fin v v0 m' H' w hm' hv hR' hb' hx
        | none =>
          rw [hc, stepC_n] at hstep
          cases hxo : xop P nro γ o.op α H with
          | none =>
            rw [hxo, stepX_n] at hstep
            cases hcx : calleeX γ α o.op with
            | none => rw [hcx] at hstep; exact hstep.elim
            | some c =>
              obtain ⟨cf, cargs⟩ := c
              rw [hcx, stepN_s, XLk_call] at hstep
              obtain ⟨hcal, hac⟩ := hstep
              obtain ⟨args', h1, h2, hrun1, hrun2⟩ := calleeX_run (P := P) hR hF hoko hcx
              rcases hac m base w args' hR h1 h2 with ⟨hbd, hac'⟩ | ⟨v0, hrun, m', v, v', H', he, hm', hv, hR', hb', hx⟩
              · rw [hrun1 hcal hbd, Oper.upon_enter]
                refine hac'.mono ?_
                rintro e w' ⟨m', v, v', H', rfl, hm', hv, hR', hb', hx⟩
                exact fin v v' m' H' w' hm' hv hR' hb' hx
              · cases he
                rw [hrun2 v0 hrun, Oper.upon_value]
                exact fin v v0 m' H' w hm' hv hR' hb' hx
          | some vH =>
            obtain ⟨v, H'⟩ := vH
            rw [hxo, stepX_s, XLk_val] at hstep
            obtain ⟨m', x, w', v', h1, h2, h3, h4, h5, h6⟩ := xop_av hoko hxo m base w a hR hF
            rw [h1]
            rcases h2 with rfl | ⟨rfl, rfl⟩
            · exact fin v v' m' H' w' h3 h4 h5 h6 hstep
            · exact fin v undef m' H' w' h3 h4 h5 h6 hstep
theorem SL.sound_pureT {F : Nat} {os : List (List Nat)} {l : List Oper} (hl : l.toArray = ops) (hok : okL n γ l = true) {Qk : Fm → Prop} {Q' : Exit → Act → World → Prop} (hQ : ∀ c a w, ¬ Q' (.panic c) a w) (hsel : Region.noSelect ops = true)
    (hR : Rel nro base γ m H w) (hK : ∀ a α listed, FR n m α a → ordersB ops F listed os = true → Qk α → wpAny P .any ops Q' F listed a w) :
    ∀ (ps : List Nat) (listed : Array Bool) (α : Fm) (a : Act), pureTreeB ops F os ps listed = true → FR n m α a → SL P n γ ops Qk H (sel l ps) α → wpAny P .any ops Q' (ps.length + F) listed a w
  | [], listed, α, a, hB, hF, h => by
    simp only [List.length_nil, Nat.zero_add]
    exact hK a α listed hF hB h
  | i :: ps, listed, α, a, hB, hF, h => by
    simp only [pureTreeB, Bool.and_eq_true] at hB
    obtain ⟨⟨⟨hr, hf⟩, hp⟩, hB'⟩ := hB
    have hr' : i ∈ Region.ready .any ops listed := by simpa using hr
    obtain ⟨_, oi, hoi, _⟩ := mem_ready.1 hr'
    have hli : l[i]? = some oi := by rw [← hoi, ← hl]; simp
    simp only [hoi] at hp
    have hoki : oi.op.operands.all (okOpd n γ) = true := by
      have := List.all_eq_true.1 hok oi (List.mem_of_getElem? hli)
      exact this
    simp only [sel, hli] at h
    unfold SL at h
    rw [show (i :: ps).length + F = (ps.length + F) + 1 by simp; omega]
    split at h
    · exact h.elim
    · rename_i hw
      have hwt := wantedA_spec hF hw
      exact wpAny_take hoi hsel hf hr (fun c a w h => absurd h (hQ c _ w)) (.inr ⟨hwt, rfl⟩) (SL.sound_pureT hl hok hQ hsel hR hK ps _ _ _ hB' (hF.put (plainV_mk plainV_undef)) h)
    · rename_i hw
      have hwt := wantedA_spec hF hw
      split at h
      · rename_i v hx
        obtain ⟨v', h1, h2⟩ := xread_all hp hoki hx hR hF
        exact wpAny_take hoi hsel hf hr (fun c a w h => absurd h (hQ c _ w)) (.inl ⟨hwt, h2⟩) (SL.sound_pureT hl hok hQ hsel hR hK ps _ _ _ hB' (hF.put h1) h)
      · exact h.elim
/-- Such a region. -/
theorem aw_ptree {id : Nat} {l : List Oper} (ps : List Nat) (F : Nat) (os : List (List Nat)) (hm : P.follows .mixedOrders = true) (hB : ptreeB l.toArray ps F os = true) (hok : okL n γ l = true)
    (h : ∀ K : Fm → AH → Prop, (∀ α' H', Q .normal α' H' → K α' H') → SL P n γ l.toArray (fun α1 => XO P nro n γ l.toArray K l F os α1 H) H (sel l ps) α) :
    AW P nro n γ (.region id l.toArray true) Q α H := by
  intro m base w a hR hF
  simp only [ptreeB, Bool.and_eq_true, decide_eq_true_eq] at hB
  obtain ⟨⟨hsel, hn⟩, hpt⟩ := hB
  refine wp_region_noPanic (wp_region_any hm ?_)
  have hR' : Rel nro base γ m H { w with drawn := w.drawn + 1 } := hR.drewN 1
  rw [← hn] at hpt ⊢
  refine SL.sound_pureT rfl hok (fun c a w h => h) hsel hR' (fun a1 α1 listed1 hF1 hst hq => ?_) ps _ α a hpt hF (h _ fun _ _ h => h)
  exact tree_runG rfl hok (w0 := { w with drawn := w.drawn + 1 }) (m0 := m) (fun m' α' H' a' w' h1 h2 h3 h4 h5 => NoPanic.normal ⟨m', α', H', h1, h2, h3, (Below.drew (.refl base w)).trans h4, h5⟩) F listed1 os α1 H m _ a1 hst hq List.prefix_rfl hR' hF1 (.refl _ _)
end
end
end Go.Proofs.Ytdeccbjdhcifiaa
