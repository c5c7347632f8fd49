/-
  Data of any depth that come in (structs, arrays, slices of numbers, texts and bools, within one another): their blocks, only read. Over any program.
-/
import Derived.Test.YtcdkpeepboofhaaXok
import Derived.Test.YtcdkpeepboofhaaXrw
namespace Go.Proofs.Ytcdkpeepboofhaa
open Go Go.RowKit Go.ChangeShapes Go.WideShapes Go.ChangeAt
set_option linter.unusedVariables false
set_option linter.unusedSimpArgs false

/-- A cell's datum. -/
inductive CD where
  | int (k : IntKind) (z : Int) | str (s : ByteArray) | bool (b : Bool) | sl (rows : List (List CD))
/-- A cell's kind. -/
inductive CK where
  | int (k : IntKind) | str | bool | sl (ks : List CK)
inductive CD.Ok : CK → CD → Prop
  | int {k : IntKind} {z : Int} (h : (Lit.int k z).wf = true) : CD.Ok (.int k) (.int k z)
  | str {s : ByteArray} (h : s.size ≤ maxLen) : CD.Ok .str (.str s)
  | bool {b : Bool} : CD.Ok .bool (.bool b)
  | sl {ks : List CK} {rows : List (List CD)} (h : rows.length ≤ maxLen) (hl : ∀ row ∈ rows, row.length = ks.length) (hd : ∀ row ∈ rows, ∀ (c : Nat) (k : CK) (d : CD), ks[c]? = some k → row[c]? = some d → CD.Ok k d) : CD.Ok (.sl ks) (.sl rows)
def OkL (ks : List CK) (ds : List CD) : Prop := ds.length = ks.length ∧ ∀ (c : Nat) (k : CK) (d : CD), ks[c]? = some k → ds[c]? = some d → CD.Ok k d
/-- Does this told value show it? -/
inductive CD.Val (H : AH) : CD → Value → Prop
  | int {k : IntKind} {z : Int} : CD.Val H (.int k z) (.int k z)
  | str {s : ByteArray} : CD.Val H (.str s) (.string s)
  | bool {b : Bool} : CD.Val H (.bool b) (.bool b)
  | nil {a : Option Addr} : CD.Val H (.sl []) (.slice a 0 0)
  | sl {sz j : Nat} {k : Blk} {rows : List (List CD)} (h1 : hget H j = some k) (h2 : rows.length * sz ≤ k.cells.length) (h3 : ∀ row ∈ rows, row.length = sz)
      (h4 : ∀ (i : Nat) (row : List CD) (c : Nat) (d : CD) (x : Value), rows[i]? = some row → row[c]? = some d → k.cells[i * sz + c]? = some x → CD.Val H d x) : CD.Val H (.sl rows) (.slice (some ⟨j, 0, none⟩) rows.length rows.length)
def ValL (H : AH) (ds : List CD) (us : List Value) : Prop := us.length = ds.length ∧ ∀ (c : Nat) (d : CD) (u : Value), ds[c]? = some d → us[c]? = some u → CD.Val H d u
theorem CD.Val.low {H H' : AH} {d : CD} {v : Value} (hl : ∀ j, j < H.length → hget H' j = hget H j) (h : CD.Val H d v) : CD.Val H' d v := by
  induction h with
  | int => exact .int
  | str => exact .str
  | bool => exact .bool
  | nil => exact .nil
  | sl h1 h2 h3 h4 ih => exact .sl (by rw [hl _ (hget_lt h1)]; exact h1) h2 h3 ih
theorem ValL.low {H H' : AH} {ds : List CD} {us : List Value} (h : ValL H ds us) (hl : ∀ j, j < H.length → hget H' j = hget H j) : ValL H' ds us :=
  ⟨h.1, fun c d u h1 h2 => (h.2 c d u h1 h2).low hl⟩
/-- A cell as it lies in memory. -/
inductive CellD (W : World) : CD → Value → Prop
  | int {k : IntKind} {z : Int} : CellD W (.int k z) (.int k z)
  | str {s : ByteArray} : CellD W (.str s) (.string s)
  | bool {b : Bool} : CellD W (.bool b) (.bool b)
  | nil : CellD W (.sl []) (.slice none 0 0)
  | sl {a : Addr} {cap sz : Nat} {rows : List (List CD)} (f : Nat → Nat → Value) (h0 : 0 < sz) (h1 : rows.length ≤ cap) (h2 : ∀ row ∈ rows, row.length = sz)
      (h3 : ∀ (i : Nat) (row : List CD) (c : Nat) (d : CD), rows[i]? = some row → row[c]? = some d → W.cell? (a.add (i * sz + c)) = some (f i c))
      (h4 : ∀ (i : Nat) (row : List CD) (c : Nat) (d : CD), rows[i]? = some row → row[c]? = some d → CellD W d (f i c)) : CellD W (.sl rows) (.slice (some a) rows.length cap)
def CellL (W : World) (ds : List CD) (cs : List Value) : Prop := cs.length = ds.length ∧ ∀ (c : Nat) (d : CD) (x : Value), ds[c]? = some d → cs[c]? = some x → CellD W d x

section
variable {P : Program} {W : World} {H : Type} {enc : TypeId × Value → H}
def fieldsN (P : Program) (f : TypeId → Option (List CK)) : List Field → Nat → Option (List CK)
  | [], _ => some []
  | x :: l, o => (f x.type).bind fun ks => if x.offset = o ∧ P.cellsOf x.type = ks.length then (fieldsN P f l (o + ks.length)).map (ks ++ ·) else none
/-- A type's cells' kinds. -/
def kindsN (P : Program) : Nat → TypeId → Option (List CK)
  | 0, _ => none
  | n + 1, t => match P.underlying t with
    | some (.int k) => some [.int k]
    | some .string => some [.str]
    | some .bool => some [.bool]
    | some (.slice e) => (kindsN P n e).bind fun ks => if P.cellsOf e = ks.length ∧ 0 < ks.length then some [.sl ks] else none
    | some (.array m e) => (kindsN P n e).bind fun ks => if P.cellsOf e = ks.length ∧ P.cellsOf t = m * ks.length then some (List.replicate m ks).flatten else none
    | some (.struct fs) => (fieldsN P (kindsN P n) fs.toList 0).bind fun ks => if P.cellsOf t = ks.length then some ks else none
    | _ => none
/-- Pieces, one behind the other. -/
theorem pieces : ∀ (ps : List (List CK)) (cs : List Value), cs.length = ps.flatten.length →
    (∀ (i : Nat) (ks : List CK), ps[i]? = some ks → ∃ ds, OkL ks ds ∧ CellL W ds ((cs.drop (ps.take i).flatten.length).take ks.length)) → ∃ ds, OkL ps.flatten ds ∧ CellL W ds cs
  | [], cs, hl, _ => by
    have : cs = [] := List.eq_nil_of_length_eq_zero (by simpa using hl)
    subst this
    exact ⟨[], ⟨rfl, fun c k d h => by simp at h⟩, ⟨rfl, fun c d x h => by simp at h⟩⟩
  | ks :: ps, cs, hl, h => by
    rw [List.flatten_cons, List.length_append] at hl
    obtain ⟨d1, o1, c1⟩ := h 0 ks rfl
    simp only [List.take_zero, List.flatten_nil, List.length_nil, List.drop_zero] at c1
    obtain ⟨d2, o2, c2⟩ := pieces ps (cs.drop ks.length) (by rw [List.length_drop]; omega) (fun i ks' hi => by
      obtain ⟨ds, o, c⟩ := h (i + 1) ks' (by simpa using hi)
      rw [List.take_succ_cons, List.flatten_cons, List.length_append, ← List.drop_drop] at c
      exact ⟨ds, o, c⟩)
    have l1 : d1.length = ks.length := o1.1
    have l1' : (cs.take ks.length).length = ks.length := by rw [List.length_take]; omega
    refine ⟨d1 ++ d2, ⟨by rw [List.flatten_cons, List.length_append, List.length_append, o1.1, o2.1], fun c k d hk hd => ?_⟩, ⟨?_, fun c d x hd hx => ?_⟩⟩
    · rw [List.flatten_cons] at hk
      rcases Nat.lt_or_ge c ks.length with hc | hc
      · rw [List.getElem?_append_left hc] at hk
        rw [List.getElem?_append_left (by omega)] at hd
        exact o1.2 c k d hk hd
      · rw [List.getElem?_append_right hc] at hk
        rw [List.getElem?_append_right (by omega), l1] at hd
        exact o2.2 _ k d hk hd
    · have := c2.1
      rw [List.length_drop] at this
      have := o1.1
      rw [List.length_append]; omega
    · rcases Nat.lt_or_ge c ks.length with hc | hc
      · rw [List.getElem?_append_left (by omega)] at hd
        exact c1.2 c d x hd (by rw [List.getElem?_take_of_lt hc]; exact hx)
      · rw [List.getElem?_append_right (by omega), l1] at hd
        exact c2.2 _ d x hd (by rw [List.getElem?_drop, show ks.length + (c - ks.length) = c by omega]; exact hx)
theorem fieldsN_pieces {f : TypeId → Option (List CK)} : ∀ (l : List Field) (o : Nat) (ks : List CK), fieldsN P f l o = some ks →
    ∃ ps : List (List CK), ks = ps.flatten ∧ ps.length = l.length ∧ ∀ (i : Nat) (x : Field), l[i]? = some x → ∃ k, ps[i]? = some k ∧ f x.type = some k ∧ x.offset = o + (ps.take i).flatten.length ∧ P.cellsOf x.type = k.length
  | [], o, ks, h => by
    cases h
    exact ⟨[], rfl, rfl, fun i x hx => by simp at hx⟩
  | x :: l, o, ks, h => by
    unfold fieldsN at h
    cases hk : f x.type with
    | none => rw [hk] at h; cases h
    | some k =>
      rw [hk] at h
      simp only [Option.bind_some] at h
      split at h
      case isFalse => cases h
      rename_i hc
      cases hr : fieldsN P f l (o + k.length) with
      | none => rw [hr] at h; cases h
      | some kr =>
        rw [hr] at h
        cases h
        obtain ⟨ps, rfl, hpl, hp⟩ := fieldsN_pieces l _ kr hr
        refine ⟨k :: ps, rfl, by simp [hpl], fun i y hy => ?_⟩
        cases i with
        | zero =>
          cases hy
          exact ⟨k, rfl, hk, by simp [hc.1], hc.2⟩
        | succ i =>
          obtain ⟨k', h1, h2, h3, h4⟩ := hp i y (by simpa using hy)
          exact ⟨k', by simpa using h1, h2, by rw [h3, List.take_succ_cons, List.flatten_cons, List.length_append]; omega, h4⟩
theorem flatten_rep {β : Type} (m i : Nat) (ks : List β) (hi : i < m) : ((List.replicate m ks).take i).flatten.length = i * ks.length ∧ (List.replicate m ks)[i]? = some ks := by
  refine ⟨?_, by rw [List.getElem?_replicate, if_pos hi]⟩
  rw [List.take_replicate, List.length_flatten, List.map_replicate, List.sum_replicate_nat, Nat.min_eq_left (Nat.le_of_lt hi)]
/-- From a value that is readable: its data. -/
theorem open_cells {base : Nat} {sp : Nat → Bool} {hd : Bool} : ∀ (fuel n : Nat) (t : TypeId) (ks : List CK) (cs : List Value) (y : DataW H × List MemPlace), kindsN P n t = some ks → DataW.trod enc P W base sp hd fuel t cs = some y → ∃ ds, OkL ks ds ∧ CellL W ds cs := by
  intro fuel
  induction fuel with
  | zero => intro n t ks cs y _ h; simp [DataW.trod] at h
  | succ fuel ih =>
    intro n t ks cs y hk h
    cases n with
    | zero => cases hk
    | succ n =>
      unfold kindsN at hk
      split at hk
      · rename_i k hu
        cases hk
        obtain ⟨z, rfl, _, hw⟩ := DataW.trod_int hu h
        exact ⟨[.int k z], ⟨rfl, fun c k d h1 h2 => by cases c with | zero => cases h1; cases h2; exact .int hw | succ c => simp at h1⟩, ⟨rfl, fun c d x h1 h2 => by cases c with | zero => cases h1; cases h2; exact .int | succ c => simp at h1⟩⟩
      · rename_i hu
        cases hk
        obtain ⟨s, rfl, _, hw⟩ := DataW.trod_string hu h
        exact ⟨[.str s], ⟨rfl, fun c k d h1 h2 => by cases c with | zero => cases h1; cases h2; exact .str hw | succ c => simp at h1⟩, ⟨rfl, fun c d x h1 h2 => by cases c with | zero => cases h1; cases h2; exact .str | succ c => simp at h1⟩⟩
      · rename_i hu
        cases hk
        obtain ⟨b, rfl⟩ := trod_bool' hu h
        exact ⟨[.bool b], ⟨rfl, fun c k d h1 h2 => by cases c with | zero => cases h1; cases h2; exact .bool | succ c => simp at h1⟩, ⟨rfl, fun c d x h1 h2 => by cases c with | zero => cases h1; cases h2; exact .bool | succ c => simp at h1⟩⟩
      · rename_i e hu
        cases hke : kindsN P n e with
        | none => rw [hke] at hk; cases hk
        | some ke =>
          rw [hke] at hk
          simp only [Option.bind_some] at hk
          split at hk
          case isFalse => cases hk
          rename_i hc
          obtain ⟨hc, h0⟩ := hc
          cases hk
          rcases DataW.trod_slice hu h with ⟨rfl, _⟩ | ⟨a, len, cap, elems, rest, m, hfm, rfl, _, hb, hl, hmx, hlen, hel, _, _⟩
          · exact ⟨[.sl []], ⟨rfl, fun c k d h1 h2 => by cases c with | zero => cases h1; cases h2; exact .sl (Nat.zero_le _) (fun r hr => by cases hr) (fun r hr => by cases hr) | succ c => simp at h1⟩, ⟨rfl, fun c d x h1 h2 => by cases c with | zero => cases h1; cases h2; exact .nil | succ c => simp at h1⟩⟩
          · obtain rfl : fuel = m := by omega
            have each : ∀ i, i < len → ∃ dx : List CD × List Value, OkL ke dx.1 ∧ CellL W dx.1 dx.2 ∧ ∀ c, c < ke.length → W.cell? (a.add (i * ke.length + c)) = dx.2[c]? := by
              intro i hi
              have h2 := hel i hi
              rw [hc, List.getElem?_eq_getElem (show i < elems.length by omega), Option.bind_eq_some_iff] at h2
              obtain ⟨cs', hcs, hy⟩ := h2
              obtain ⟨ds, o, c⟩ := ih n e ke cs' _ hke hy
              have hcell := (World.cells?_some hcs).2.2
              exact ⟨(ds, cs'), o, c, fun q hq => by rw [← hcell q hq, Addr.add_add]⟩
            obtain ⟨X, hX1, hX2⟩ := choose_list (fun i (_ : Nat) (dx : List CD × List Value) => OkL ke dx.1 ∧ CellL W dx.1 dx.2 ∧ ∀ c, c < ke.length → W.cell? (a.add (i * ke.length + c)) = dx.2[c]?) (List.range len) 0 (fun i x hx => by
              have := (List.getElem?_eq_some_iff.1 hx).1
              rw [List.length_range] at this
              rw [Nat.zero_add]
              exact each i this)
            rw [List.length_range] at hX1
            have hX : ∀ i dx, X[i]? = some dx → OkL ke dx.1 ∧ CellL W dx.1 dx.2 ∧ ∀ c, c < ke.length → W.cell? (a.add (i * ke.length + c)) = dx.2[c]? := fun i dx hi => by
              have hil := (List.getElem?_eq_some_iff.1 hi).1
              obtain ⟨y, hy1, hy2⟩ := hX2 i i (List.getElem?_range (by omega))
              rw [Nat.zero_add] at hy2
              rw [hi] at hy1
              cases hy1
              exact hy2
            have hrow : ∀ i row, (X.map (·.1))[i]? = some row → ∃ cv, OkL ke row ∧ CellL W row cv ∧ X[i]? = some (row, cv) ∧ ∀ c, c < ke.length → W.cell? (a.add (i * ke.length + c)) = cv[c]? := fun i row hr => by
              rw [List.getElem?_map] at hr
              cases hq : X[i]? with
              | none => rw [hq] at hr; cases hr
              | some dx =>
                rw [hq] at hr
                cases hr
                obtain ⟨q1, q2, q3⟩ := hX i dx hq
                exact ⟨dx.2, q1, q2, rfl, q3⟩
            have hmem : ∀ row ∈ X.map (·.1), OkL ke row := fun row hr => by
              obtain ⟨i, hi⟩ := List.mem_iff_getElem?.1 hr
              obtain ⟨cv, q, _⟩ := hrow i row hi
              exact q
            have hlen2 : (X.map (·.1)).length = len := by rw [List.length_map, hX1]
            refine ⟨[.sl (X.map (·.1))], ⟨rfl, fun c k d h1 h2 => ?_⟩, ⟨rfl, fun c d x h1 h2 => ?_⟩⟩
            · cases c with
              | zero =>
                cases h1; cases h2
                exact .sl (by rw [hlen2]; omega) (fun row hr => (hmem row hr).1) (fun row hr => (hmem row hr).2)
              | succ c => simp at h1
            · cases c with
              | zero =>
                cases h1; cases h2
                have hs := CellD.sl (W := W) (a := a) (cap := cap) (sz := ke.length) (rows := X.map (·.1)) (fun i c => (((X.getD i ([], [])).2).getD c undef)) h0 (by rw [hlen2]; exact hl) (fun row hr => (hmem row hr).1) (fun i row c d hi hc2 => ?_) (fun i row c d hi hc2 => ?_)
                · rwa [hlen2] at hs
                · obtain ⟨cv, q1, q2, q3, q4⟩ := hrow i row hi
                  have hcl : c < ke.length := by rw [← q1.1]; exact (List.getElem?_eq_some_iff.1 hc2).1
                  rw [q4 c hcl]
                  have hcv : c < cv.length := by rw [q2.1, q1.1]; exact hcl
                  simp [List.getD_eq_getElem?_getD, q3, hcv]
                · obtain ⟨cv, q1, q2, q3, q4⟩ := hrow i row hi
                  have hcl : c < ke.length := by rw [← q1.1]; exact (List.getElem?_eq_some_iff.1 hc2).1
                  have hcv : c < cv.length := by rw [q2.1, q1.1]; exact hcl
                  refine q2.2 c d _ hc2 ?_
                  simp [List.getD_eq_getElem?_getD, q3, hcv]
              | succ c => simp at h1
      · rename_i m e hu
        cases hke : kindsN P n e with
        | none => rw [hke] at hk; cases hk
        | some ke =>
          rw [hke] at hk
          simp only [Option.bind_some] at hk
          split at hk
          case isFalse => cases hk
          rename_i hc
          obtain ⟨hc, hct⟩ := hc
          cases hk
          obtain ⟨xs, m2, hfm, _, hl, hn, hel⟩ := DataW.trod_array hu h
          obtain rfl : fuel = m2 := by omega
          refine pieces (List.replicate m ke) cs (by rw [hl, hct, List.length_flatten, List.map_replicate, List.sum_replicate_nat]) (fun i ks hi => ?_)
          have him : i < m := by
            have := (List.getElem?_eq_some_iff.1 hi).1
            simpa using this
          obtain ⟨e1, e2⟩ := flatten_rep m i ke him
          rw [e2] at hi
          cases hi
          have h3 := hel i him
          rw [List.getElem?_eq_getElem (show i < xs.length by omega), hc] at h3
          rw [e1]
          exact ih n e ke _ _ hke h3
      · rename_i fs hu
        cases hf : fieldsN P (kindsN P n) fs.toList 0 with
        | none => rw [hf] at hk; cases hk
        | some kf =>
          rw [hf] at hk
          simp only [Option.bind_some] at hk
          split at hk
          case isFalse => cases hk
          rename_i hc
          cases hk
          obtain ⟨xs, m2, hfm, _, hl, hn, hel⟩ := DataW.trod_struct hu h
          obtain rfl : fuel = m2 := by omega
          obtain ⟨ps, rfl, hpl, hp⟩ := fieldsN_pieces _ _ _ hf
          refine pieces ps cs (by rw [hl, hc]) (fun i ks hi => ?_)
          have him : i < fs.toList.length := by rw [← hpl]; exact (List.getElem?_eq_some_iff.1 hi).1
          obtain ⟨x, hx⟩ : ∃ x, fs.toList[i]? = some x := ⟨_, List.getElem?_eq_getElem him⟩
          obtain ⟨k', h1, h2, h3, h4⟩ := hp i x hx
          rw [hi] at h1
          cases h1
          have h5 := hel i x (by simpa using hx)
          rw [h3, h4, Nat.zero_add, List.getElem?_eq_getElem (by simp at him; omega)] at h5
          exact ih n x.type ks _ _ h2 h5
      · cases hk
end
/-- What is told of cells: their values and blocks, from number n on. -/
structure ToldL (W : World) (n : Nat) (E : List (Ent × Blk)) (us : List Value) (l : List (CD × Value)) : Prop where
  len : us.length = l.length
  ro : ∀ (A B : List (Ent × Blk)), A.length = n → ∀ x ∈ E, x.1.b < W.heap.size ∧ x.1.es = x.2.es ∧ ∃ cs fr, W.heap[x.1.b]? = some (.cells cs x.2.ty fr) ∧ ∀ (j : Nat) (u : Value), x.2.cells[j]? = some u → ∃ y, cs[x.1.o + j]? = some y ∧ V1 ((A ++ (E ++ B)).map (·.1)) u y
  rel : ∀ (A B : List (Ent × Blk)), A.length = n → ∀ (q : Nat) (u : Value) (p : CD × Value), us[q]? = some u → l[q]? = some p → V1 ((A ++ (E ++ B)).map (·.1)) u p.2
  val : ∀ (A B : List (Ent × Blk)), A.length = n → ∀ (q : Nat) (u : Value) (p : CD × Value), us[q]? = some u → l[q]? = some p → p.1.Val ((A ++ (E ++ B)).map fun x => some x.2) u
theorem tell_list {W : World} : ∀ (l : List (CD × Value)), (∀ p ∈ l, ∀ n, ∃ E u, ToldL W n E [u] [p]) → ∀ n, ∃ E us, ToldL W n E us l
  | [], _, n => ⟨[], [], rfl, fun A B _ x hx => (by cases hx), fun A B _ q u p h => (by simp at h), fun A B _ q u p h => (by simp at h)⟩
  | p :: l, h, n => by
    obtain ⟨E1, u, t1⟩ := h p (by simp) n
    obtain ⟨E2, us, t2⟩ := tell_list l (fun p hp => h p (by simp [hp])) (n + E1.length)
    have e1 : ∀ (A B : List (Ent × Blk)), A ++ ((E1 ++ E2) ++ B) = A ++ (E1 ++ (E2 ++ B)) := fun A B => by simp
    have e2 : ∀ (A B : List (Ent × Blk)), A ++ ((E1 ++ E2) ++ B) = (A ++ E1) ++ (E2 ++ B) := fun A B => by simp
    refine ⟨E1 ++ E2, u :: us, by simp [t2.len], fun A B hA x hx => ?_, fun A B hA q v p' hq hp => ?_, fun A B hA q v p' hq hp => ?_⟩
    · rcases List.mem_append.1 hx with hx | hx
      · rw [e1]; exact t1.ro A (E2 ++ B) hA x hx
      · rw [e2]; exact t2.ro (A ++ E1) B (by rw [List.length_append, hA]) x hx
    · cases q with
      | zero => rw [e1]; exact t1.rel A (E2 ++ B) hA 0 v p' hq hp
      | succ q => rw [e2]; exact t2.rel (A ++ E1) B (by rw [List.length_append, hA]) q v p' (by simpa using hq) (by simpa using hp)
    · cases q with
      | zero => rw [e1]; exact t1.val A (E2 ++ B) hA 0 v p' hq hp
      | succ q => rw [e2]; exact t2.val (A ++ E1) B (by rw [List.length_append, hA]) q v p' (by simpa using hq) (by simpa using hp)
theorem single_q {β γ : Type} {R : β → γ → Prop} {x : β} {y : γ} (h : R x y) : ∀ (q : Nat) (u : β) (p : γ), [x][q]? = some u → [y][q]? = some p → R u p := by
  intro q u p h1 h2
  cases q with
  | zero => cases h1; cases h2; exact h
  | succ q => simp at h1
theorem told_plain {W : World} {d : CD} {x : Value} (hp : plain1 x = true) (hv : ∀ H : AH, d.Val H x) (n : Nat) : ∃ E u, ToldL W n E [u] [(d, x)] :=
  ⟨[], x, rfl, fun A B _ y hy => (by cases hy), fun A B _ => single_q (R := fun (u : Value) (p : CD × Value) => V1 _ u p.2) (.plain hp), fun A B _ => single_q (R := fun (u : Value) (p : CD × Value) => p.1.Val _ u) (hv _)⟩
theorem div_mod_at {i c sz : Nat} (hc : c < sz) : (i * sz + c) / sz = i ∧ (i * sz + c) % sz = c := by
  have h0 : 0 < sz := by omega
  constructor
  · rw [Nat.add_comm, Nat.add_mul_div_right _ _ h0, Nat.div_eq_of_lt hc, Nat.zero_add]
  · rw [Nat.add_comm, Nat.add_mul_mod_self_right, Nat.mod_eq_of_lt hc]
theorem tell_one {W : World} {d : CD} {x : Value} (h : CellD W d x) : ∀ n, ∃ E u, ToldL W n E [u] [(d, x)] := by
  induction h with
  | int => exact told_plain rfl fun _ => .int
  | str => exact told_plain rfl fun _ => .str
  | bool => exact told_plain rfl fun _ => .bool
  | nil => exact told_plain rfl fun _ => .nil
  | @sl a cap sz rows f h0 h1 h2 h3 h4 ih =>
    intro n
    rcases Nat.eq_zero_or_pos rows.length with hr0 | hr0
    · have : rows = [] := List.eq_nil_of_length_eq_zero hr0
      subst this
      exact ⟨[], .slice (some ⟨0, 0, some 0⟩) 0 0, rfl, fun A B _ y hy => (by cases hy), fun A B _ => single_q (R := fun (u : Value) (p : CD × Value) => V1 _ u p.2) .sl0, fun A B _ => single_q (R := fun (u : Value) (p : CD × Value) => p.1.Val _ u) .nil⟩
    have at_ : ∀ {i c : Nat}, i < rows.length → c < sz → ∃ row d, rows[i]? = some row ∧ row[c]? = some d := fun {i c} hi hc => by
      have hm := h2 rows[i] (List.getElem_mem hi)
      exact ⟨rows[i], rows[i][c]'(by omega), List.getElem?_eq_getElem hi, List.getElem?_eq_getElem (by omega)⟩
    obtain ⟨row0, d0, hr, hd⟩ := at_ hr0 h0
    have hc0 := h3 0 row0 0 d0 hr hd
    rw [Nat.zero_mul, Nat.zero_add] at hc0
    obtain ⟨b, off, spot⟩ := a
    have hsp : spot = none := by
      cases spot with
      | none => rfl
      | some s =>
        simp only [World.cell?, Addr.add] at hc0
        split at hc0
        · split at hc0 <;> simp_all
        · cases hc0
    subst hsp
    have hblk : ∃ cs ty fr, W.heap[b]? = some (.cells cs ty fr) := by
      rw [add_none'] at hc0
      simp only [World.cell?] at hc0
      split at hc0
      · rename_i c t f hh; exact ⟨c, t, f, hh⟩
      · cases hc0
    obtain ⟨cs, ty, fr, hh⟩ := hblk
    -- the row's cells, as a list
    obtain ⟨l, hl⟩ : ∃ l : List (CD × Value), l = (List.range (rows.length * sz)).map fun q => (((rows.getD (q / sz) []).getD (q % sz) (.bool false)), f (q / sz) (q % sz)) := ⟨_, rfl⟩
    have hll : l.length = rows.length * sz := by rw [hl]; simp
    have hlt : ∀ {i c : Nat}, i < rows.length → c < sz → i * sz + c < rows.length * sz := fun {i c} hi hc => by
      have : (i + 1) * sz ≤ rows.length * sz := Nat.mul_le_mul_right _ hi
      rw [Nat.add_mul] at this
      omega
    have hget_l : ∀ {i c : Nat} {row : List CD} {d : CD}, rows[i]? = some row → row[c]? = some d → l[i * sz + c]? = some (d, f i c) := fun {i c row d} hr hd => by
      have hi := (List.getElem?_eq_some_iff.1 hr).1
      have hc : c < sz := by rw [← h2 row (List.mem_of_getElem? hr)]; exact (List.getElem?_eq_some_iff.1 hd).1
      obtain ⟨q1, q2⟩ := div_mod_at (i := i) hc
      rw [hl, List.getElem?_map, List.getElem?_range (hlt hi hc)]
      simp only [Option.map_some, q1, q2, List.getD_eq_getElem?_getD, hr, hd, Option.getD_some]
    have hmem : ∀ q p, l[q]? = some p → ∃ i c row, rows[i]? = some row ∧ row[c]? = some p.1 ∧ p.2 = f i c ∧ q = i * sz + c ∧ c < sz ∧ i < rows.length := fun q p hq => by
      have hql : q < rows.length * sz := by rw [← hll]; exact (List.getElem?_eq_some_iff.1 hq).1
      have hi : q / sz < rows.length := Nat.div_lt_of_lt_mul (by rw [Nat.mul_comm]; exact hql)
      have hc : q % sz < sz := Nat.mod_lt _ h0
      obtain ⟨row, d, k1, k2⟩ := at_ hi hc
      have e1 : q / sz * sz + q % sz = q := by rw [Nat.mul_comm]; exact Nat.div_add_mod q sz
      have := hget_l k1 k2
      rw [e1, hq] at this
      cases this
      exact ⟨_, _, row, k1, k2, rfl, e1.symm, hc, hi⟩
    obtain ⟨E, us, t⟩ := tell_list l (fun p hp => by
      obtain ⟨q, hq⟩ := List.mem_iff_getElem?.1 hp
      obtain ⟨i, c, row, k1, k2, k3, _⟩ := hmem q p hq
      have := ih i row c p.1 k1 k2
      rw [← k3] at this
      exact this) (n + 1)
    have e1 : ∀ (A B : List (Ent × Blk)), A ++ ((((⟨b, off, 0, none⟩ : Ent), (⟨us, ty, none⟩ : Blk)) :: E) ++ B) = (A ++ [((⟨b, off, 0, none⟩ : Ent), (⟨us, ty, none⟩ : Blk))]) ++ (E ++ B) := fun A B => by simp
    have hAl : ∀ (A : List (Ent × Blk)), A.length = n → (A ++ [((⟨b, off, 0, none⟩ : Ent), (⟨us, ty, none⟩ : Blk))]).length = n + 1 := fun A h => by simp [h]
    have hat : ∀ (A B : List (Ent × Blk)), A.length = n → (A ++ ((((⟨b, off, 0, none⟩ : Ent), (⟨us, ty, none⟩ : Blk)) :: E) ++ B))[n]? = some ((⟨b, off, 0, none⟩ : Ent), (⟨us, ty, none⟩ : Blk)) := fun A B h => by
      rw [List.getElem?_append_right (by omega), h, Nat.sub_self]; rfl
    refine ⟨((⟨b, off, 0, none⟩ : Ent), (⟨us, ty, none⟩ : Blk)) :: E, .slice (some ⟨n, 0, none⟩) rows.length rows.length, rfl, fun A B hA x hx => ?_, fun A B hA q u p hq hp => ?_, fun A B hA q u p hq hp => ?_⟩
    · rcases List.mem_cons.1 hx with rfl | hx
      · refine ⟨(Array.getElem?_eq_some_iff.1 hh).1, rfl, cs, fr, hh, fun j u hu => ?_⟩
        have hj : j < l.length := by rw [← t.len]; exact (List.getElem?_eq_some_iff.1 hu).1
        obtain ⟨p, hp⟩ : ∃ p, l[j]? = some p := ⟨_, List.getElem?_eq_getElem hj⟩
        obtain ⟨i, c, row, k1, k2, k3, k4, k5, k6⟩ := hmem j p hp
        have hcell := h3 i row c p.1 k1 k2
        rw [add_none', ← k4, ← k3] at hcell
        simp only [World.cell?, hh] at hcell
        refine ⟨p.2, by simpa using hcell, ?_⟩
        rw [e1]
        exact t.rel _ B (hAl A hA) j u p hu hp
      · rw [e1]
        exact t.ro _ B (hAl A hA) x hx
    · cases q with
      | succ q => simp at hq
      | zero =>
        cases hq; cases hp
        have := V1.sl (m := (A ++ ((((⟨b, off, 0, none⟩ : Ent), (⟨us, ty, none⟩ : Blk)) :: E) ++ B)).map (·.1)) (i := n) (off := 0) (len := rows.length) (c := cap) (e := ⟨b, off, 0, none⟩) (by rw [List.getElem?_map, hat A B hA]; rfl) h1 (fun _ s hs => by cases hs)
        exact this
    · cases q with
      | succ q => simp at hq
      | zero =>
        cases hq; cases hp
        refine .sl (sz := sz) (j := n) (k := ⟨us, ty, none⟩) ?_ (by show _ ≤ us.length; rw [t.len, hll]; exact Nat.le_refl _) h2 (fun i row c d x hi hc hx => ?_)
        · unfold hget
          rw [List.getElem?_map, hat A B hA]
          rfl
        · have := t.val _ B (hAl A hA) (i * sz + c) x (d, f i c) hx (hget_l hi hc)
          rwa [← e1] at this
/-- What is told of a value that comes in. -/
theorem tell_cells {W : World} {ds : List CD} {cs : List Value} (h : CellL W ds cs) (n : Nat) : ∃ E us, ToldL W n E us (ds.zip cs) := by
  refine tell_list _ (fun p hp => ?_) n
  obtain ⟨q, hq⟩ := List.mem_iff_getElem?.1 hp
  rw [List.getElem?_zip_eq_some] at hq
  obtain ⟨d, x⟩ := p
  exact tell_one (h.2 q d x hq.1 hq.2)
theorem ToldL.valL {W : World} {n : Nat} {E : List (Ent × Blk)} {us : List Value} {ds : List CD} {cs : List Value} (h : ToldL W n E us (ds.zip cs)) (hc : CellL W ds cs) {A B : List (Ent × Blk)} (hA : A.length = n) : ValL ((A ++ (E ++ B)).map fun x => some x.2) ds us := by
  have hl : us.length = ds.length := by rw [h.len, List.length_zip, hc.1, Nat.min_self]
  refine ⟨hl, fun c d u h1 h2 => ?_⟩
  have hcl : c < cs.length := by rw [hc.1]; exact (List.getElem?_eq_some_iff.1 h1).1
  exact h.val A B hA c u (d, cs[c]) h2 (by rw [List.getElem?_zip_eq_some]; exact ⟨h1, List.getElem?_eq_getElem hcl⟩)
theorem ToldL.vAgg {W : World} {n : Nat} {E : List (Ent × Blk)} {us : List Value} {ds : List CD} {cs : Array Value} (h : ToldL W n E us (ds.zip cs.toList)) (hc : CellL W ds cs.toList) {A B : List (Ent × Blk)} (hA : A.length = n) : V ((A ++ (E ++ B)).map (·.1)) (.agg us.toArray) (.agg cs) := by
  have hl : us.length = ds.length := by rw [h.len, List.length_zip, hc.1, Nat.min_self]
  refine .two (.agg (by have h1 := hc.1; simp only [Array.length_toList] at h1; simp only [List.size_toArray]; omega) (fun i x hx => ?_))
  have hx' : us[i]? = some x := by simpa using hx
  have hi : i < us.length := (List.getElem?_eq_some_iff.1 hx').1
  have hic : i < cs.toList.length := by rw [hc.1]; omega
  refine ⟨cs.toList[i], by simp at hic; simp [hic], h.rel A B hA i x (ds[i]'(by omega), cs.toList[i]) hx' (by rw [List.getElem?_zip_eq_some]; exact ⟨List.getElem?_eq_getElem _, List.getElem?_eq_getElem hic⟩)⟩
theorem ToldL.vOne {W : World} {n : Nat} {E : List (Ent × Blk)} {us : List Value} {ds : List CD} {x : Value} (h : ToldL W n E us (ds.zip [x])) (hc : CellL W ds [x]) {A B : List (Ent × Blk)} (hA : A.length = n) : ∃ u, us = [u] ∧ V ((A ++ (E ++ B)).map (·.1)) u x := by
  have hd := hc.1
  simp only [List.length_singleton] at hd
  have hl : us.length = 1 := by rw [h.len, List.length_zip, ← hd]; rfl
  match us, hl, h with
  | [u], _, h =>
    obtain ⟨d, rfl⟩ : ∃ d, ds = [d] := List.length_eq_one_iff.1 hd.symm
    exact ⟨u, rfl, .one (h.rel A B hA 0 u (d, x) rfl rfl)⟩
section
variable {P : Program} {W : World} {H : Type} {enc : TypeId × Value → H}
theorem open_deep {base : Nat} {sp : Nat → Bool} {hd : Bool} {t : TypeId} {v : Value} {d : DataW H} {p : List MemPlace} (n : Nat) {ks : List CK} (hk : kindsN P n t = some ks) (h : DataW.Trod enc P W base sp hd t v d p) : ∃ ds, OkL ks ds ∧ CellL W ds v.cells.toList := by
  obtain ⟨fuel, hf⟩ := h
  exact open_cells fuel n t ks _ _ hk hf
/-- Is this a type of structs or arrays? -/
def aggT (P : Program) (t : TypeId) : Bool := match P.underlying t with | some (.struct _) => true | some (.array _ _) => true | _ => false
theorem agg_of {r : Reach} {b0 : Nat} {t : TypeId} {v : Value} (ha : aggT P t = true) (h : Value.okWide P W r b0 t v) : ∃ cs, v = .agg cs := by
  unfold aggT at ha
  unfold Value.okWide at h
  split at ha
  · rename_i fs hu
    simp only [hu] at h
    obtain ⟨cs, h, _⟩ := h
    exact ⟨cs, h⟩
  · rename_i m e hu
    simp only [hu] at h
    obtain ⟨cs, h, _⟩ := h
    exact ⟨cs, h⟩
  · cases ha
theorem slice_of {r : Reach} {b0 : Nat} {t e : TypeId} {v : Value} (ht : P.underlying t = some (.slice e)) (hv : Value.okWide P W r b0 t v) : v.cells.toList = [v] := by
  obtain ⟨a0, l0, c0, rfl⟩ := okWide_slice ht hv
  rfl
end
/-- Rows that are chosen one by one. -/
theorem rows_of {β : Type} {f : β → List CD} {R : β → Prop} : ∀ (rows : List (List CD)), (∀ row ∈ rows, ∃ z, row = f z ∧ R z) → ∃ zs : List β, rows = zs.map f ∧ ∀ z ∈ zs, R z
  | [], _ => ⟨[], rfl, fun z hz => by cases hz⟩
  | row :: rows, h => by
    obtain ⟨z, rfl, hz⟩ := h row (by simp)
    obtain ⟨zs, rfl, hzs⟩ := rows_of rows (fun r hr => h r (by simp [hr]))
    exact ⟨z :: zs, rfl, fun y hy => by
      rcases List.mem_cons.1 hy with rfl | hy
      · exact hz
      · exact hzs y hy⟩
theorem ok_sl {ks : List CK} {d : CD} (h : CD.Ok (.sl ks) d) : ∃ rows, d = .sl rows ∧ rows.length ≤ maxLen ∧ ∀ row ∈ rows, OkL ks row := by
  cases h with
  | sl h1 h2 h3 => exact ⟨_, rfl, h1, fun row hr => ⟨h2 row hr, h3 row hr⟩⟩
theorem ok_int {k : IntKind} {d : CD} (h : CD.Ok (.int k) d) : ∃ z, d = .int k z ∧ (Lit.int k z).wf = true := by
  cases h with
  | int h => exact ⟨_, rfl, h⟩
theorem ok_str {d : CD} (h : CD.Ok .str d) : ∃ s, d = .str s ∧ s.size ≤ maxLen := by
  cases h with
  | str h => exact ⟨_, rfl, h⟩
theorem ok_bool {d : CD} (h : CD.Ok .bool d) : ∃ b, d = .bool b := by
  cases h
  exact ⟨_, rfl⟩
theorem OkL.nil {ds : List CD} (h : OkL [] ds) : ds = [] := List.eq_nil_of_length_eq_zero h.1
theorem OkL.cons {k : CK} {ks : List CK} {ds : List CD} (h : OkL (k :: ks) ds) : ∃ d r, ds = d :: r ∧ CD.Ok k d ∧ OkL ks r := by
  obtain ⟨h1, h2⟩ := h
  cases ds with
  | nil => cases h1
  | cons d r => exact ⟨d, r, rfl, h2 0 k d rfl rfl, by simpa using h1, fun c k d hk hd => h2 (c + 1) k d (by simpa using hk) (by simpa using hd)⟩
theorem OkL.split {a b : List CK} {ds : List CD} (h : OkL (a ++ b) ds) : ∃ x y, ds = x ++ y ∧ OkL a x ∧ OkL b y := by
  obtain ⟨h1, h2⟩ := h
  rw [List.length_append] at h1
  refine ⟨ds.take a.length, ds.drop a.length, (List.take_append_drop _ _).symm, ⟨by rw [List.length_take]; omega, fun c k d hk hd => ?_⟩, ⟨by rw [List.length_drop]; omega, fun c k d hk hd => ?_⟩⟩
  · have hc := (List.getElem?_eq_some_iff.1 hk).1
    rw [List.getElem?_take_of_lt hc] at hd
    exact h2 c k d (by rw [List.getElem?_append_left hc]; exact hk) hd
  · rw [List.getElem?_drop] at hd
    exact h2 (a.length + c) k d (by rw [List.getElem?_append_right (by omega), Nat.add_sub_cancel_left]; exact hk) hd
theorem OkL.ints {k : IntKind} : ∀ {n : Nat} {ds : List CD}, OkL (List.replicate n (.int k)) ds → ∃ zs : List Int, ds = zs.map (.int k) ∧ zs.length = n ∧ ∀ z ∈ zs, (Lit.int k z).wf = true
  | 0, ds, h => ⟨[], h.nil, rfl, fun z hz => by cases hz⟩
  | n + 1, ds, h => by
    rw [List.replicate_succ] at h
    obtain ⟨d, r, rfl, hd, hr⟩ := h.cons
    obtain ⟨z, rfl, hz⟩ := ok_int hd
    obtain ⟨zs, rfl, hl, hzs⟩ := OkL.ints hr
    exact ⟨z :: zs, rfl, by simp [hl], fun y hy => by
      rcases List.mem_cons.1 hy with rfl | hy
      · exact hz
      · exact hzs y hy⟩
theorem ok_ints {k : IntKind} {d : CD} (h : CD.Ok (.sl [.int k]) d) : ∃ zs : List Int, d = .sl (zs.map fun z => [.int k z]) ∧ (∀ z ∈ zs, (Lit.int k z).wf = true) ∧ zs.length ≤ maxLen := by
  obtain ⟨rows, rfl, hm, hr⟩ := ok_sl h
  obtain ⟨zs, rfl, hz⟩ := rows_of (f := fun z => [CD.int k z]) (R := fun z => (Lit.int k z).wf = true) rows (fun row hrow => by
    obtain ⟨d, r, rfl, hd, hr'⟩ := (hr row hrow).cons
    obtain rfl := hr'.nil
    obtain ⟨z, rfl, hz⟩ := ok_int hd
    exact ⟨z, rfl, hz⟩)
  exact ⟨zs, rfl, hz, by simpa using hm⟩
theorem ok_strs {d : CD} (h : CD.Ok (.sl [.str]) d) : ∃ ss : List ByteArray, d = .sl (ss.map fun s => [.str s]) ∧ (∀ s ∈ ss, s.size ≤ maxLen) ∧ ss.length ≤ maxLen := by
  obtain ⟨rows, rfl, hm, hr⟩ := ok_sl h
  obtain ⟨zs, rfl, hz⟩ := rows_of (f := fun s => [CD.str s]) (R := fun s => s.size ≤ maxLen) rows (fun row hrow => by
    obtain ⟨d, r, rfl, hd, hr'⟩ := (hr row hrow).cons
    obtain rfl := hr'.nil
    obtain ⟨z, rfl, hz⟩ := ok_str hd
    exact ⟨z, rfl, hz⟩)
  exact ⟨zs, rfl, hz, by simpa using hm⟩
theorem ok_keys {n : Nat} {k : IntKind} {d : CD} (h : CD.Ok (.sl (List.replicate n (.int k))) d) : ∃ zs : List (List Int), d = .sl (zs.map fun key => key.map (.int k)) ∧ (∀ key ∈ zs, key.length = n ∧ ∀ z ∈ key, (Lit.int k z).wf = true) ∧ zs.length ≤ maxLen := by
  obtain ⟨rows, rfl, hm, hr⟩ := ok_sl h
  obtain ⟨zs, rfl, hz⟩ := rows_of (f := fun key : List Int => key.map (CD.int k)) (R := fun key => key.length = n ∧ ∀ z ∈ key, (Lit.int k z).wf = true) rows (fun row hrow => by
    obtain ⟨zs, rfl, hl, hzs⟩ := (hr row hrow).ints
    exact ⟨zs, rfl, hl, hzs⟩)
  exact ⟨zs, rfl, hz, by simpa using hm⟩
theorem val_int {H : AH} {k : IntKind} {z : Int} {v : Value} (h : CD.Val H (.int k z) v) : v = .int k z := by cases h; rfl
theorem val_str {H : AH} {s : ByteArray} {v : Value} (h : CD.Val H (.str s) v) : v = .string s := by cases h; rfl
theorem val_bool {H : AH} {b : Bool} {v : Value} (h : CD.Val H (.bool b) v) : v = .bool b := by cases h; rfl
theorem val_one {H : AH} {β : Type} {l : List β} {f : β → CD} {g : β → Value} {v : Value} (hf : ∀ x ∈ l, ∀ u, CD.Val H (f x) u → u = g x) (h : CD.Val H (.sl (l.map fun x => [f x])) v) : SlV H v (l.map g) := by
  generalize hd : CD.sl (l.map fun x => [f x]) = d at h
  cases h with
  | int => cases hd
  | str => cases hd
  | bool => cases hd
  | nil =>
    injection hd with hd
    have : l = [] := List.map_eq_nil_iff.1 hd
    subst this
    exact .inl ⟨_, rfl, rfl⟩
  | @sl sz j k rows h1 h2 h3 h4 =>
    injection hd with hd
    subst hd
    rw [List.length_map] at h2 ⊢
    cases l with
    | nil => exact .inl ⟨_, rfl, rfl⟩
    | cons x0 l0 =>
      have hs : sz = 1 := by
        have := h3 [f x0] (by simp)
        simpa using this.symm
      subst hs
      refine .inr ⟨j, 0, k, by rw [List.length_map], h1, fun i x hi => ?_⟩
      rw [List.getElem?_map] at hi
      cases hq : (x0 :: l0)[i]? with
      | none => rw [hq] at hi; cases hi
      | some y =>
        rw [hq] at hi
        cases hi
        have hil := (List.getElem?_eq_some_iff.1 hq).1
        have hik : i < k.cells.length := by omega
        have hx : k.cells[i * 1 + 0]? = some k.cells[i] := by rw [Nat.mul_one, Nat.add_zero]; exact List.getElem?_eq_getElem hik
        have := h4 i [f y] 0 (f y) _ (by rw [List.getElem?_map, hq]; rfl) rfl hx
        rw [Nat.zero_add, List.getElem?_eq_getElem hik, hf y (List.mem_of_getElem? hq) _ this]
theorem val_ints {H : AH} {k : IntKind} {zs : List Int} {v : Value} (h : CD.Val H (.sl (zs.map fun z => [.int k z])) v) : SlV H v (iv k zs) := val_one (f := fun z => CD.int k z) (g := fun z => .int k z) (fun z _ u hu => val_int hu) h
theorem val_strs {H : AH} {ss : List ByteArray} {v : Value} (h : CD.Val H (.sl (ss.map fun s => [.str s])) v) : SlV H v (ss.map .string) := val_one (f := fun s => CD.str s) (g := fun s => .string s) (fun z _ u hu => val_str hu) h
theorem val_keys {H : AH} {n : Nat} {k : IntKind} {ks : List (List Int)} {v : Value} (hn : ∀ key ∈ ks, key.length = n) (h : CD.Val H (.sl (ks.map fun key => key.map (.int k))) v) : SlK n k H v ks := by
  generalize hd : CD.sl (ks.map fun key => key.map (.int k)) = d at h
  cases h with
  | int => cases hd
  | str => cases hd
  | bool => cases hd
  | nil =>
    injection hd with hd
    have : ks = [] := List.map_eq_nil_iff.1 hd
    subst this
    exact .inl ⟨_, rfl, rfl⟩
  | @sl sz j b rows h1 h2 h3 h4 =>
    injection hd with hd
    subst hd
    rw [List.length_map] at h2 ⊢
    cases ks with
    | nil => exact .inl ⟨_, rfl, rfl⟩
    | cons x0 l0 =>
      have hs : sz = n := by
        have h5 := h3 (x0.map (.int k)) (by simp)
        rw [List.length_map] at h5
        rw [← h5]; exact hn x0 (by simp)
      subst hs
      refine .inr ⟨j, b, rfl, h1, h2, fun i key hi => ?_⟩
      have hil := (List.getElem?_eq_some_iff.1 hi).1
      have hkl := hn key (List.mem_of_getElem? hi)
      have h7 : (i + 1) * sz ≤ (x0 :: l0).length * sz := Nat.mul_le_mul_right _ hil
      rw [Nat.add_mul] at h7
      apply List.ext_getElem?
      intro c
      rcases Nat.lt_or_ge c sz with hc | hc
      · rw [List.getElem?_take_of_lt hc, List.getElem?_drop, List.getElem?_eq_getElem (show i * sz + c < b.cells.length by omega)]
        have hkc : key[c]? = some (key[c]'(by omega)) := List.getElem?_eq_getElem _
        have := h4 i (key.map (.int k)) c (.int k (key[c]'(by omega))) _ (by rw [List.getElem?_map, hi]; rfl) (by rw [List.getElem?_map, hkc]; rfl) (List.getElem?_eq_getElem (show i * sz + c < b.cells.length by omega))
        rw [val_int this]
        unfold iv
        rw [List.getElem?_map, hkc]
        rfl
      · rw [List.getElem?_eq_none (by rw [List.length_take]; omega), List.getElem?_eq_none (by rw [iv_length]; omega)]
theorem val_len {P : Program} {H : AH} {rows : List (List CD)} {v : Value} {t e : TypeId} (h : CD.Val H (.sl rows) v) (ht : und P t = .slice e) : xlen P t v = some (.int .i64 rows.length) := by
  cases h with
  | nil => simp [xlen, ht]
  | sl _ _ _ _ => simp [xlen, ht]
theorem val_nt {H : AH} {rows : List (List CD)} {v : Value} (h : CD.Val H (.sl rows) v) : notTuple v = true ∧ v.cells = #[v] := by
  cases h <;> exact ⟨rfl, rfl⟩
/-- One row, by its address. -/
theorem val_at {P : Program} {H : AH} {rows : List (List CD)} {v : Value} {t e : TypeId} {sz : Nat} (h : CD.Val H (.sl rows) v) (ht : und P t = .slice e) (hs : szt P e = sz) (h0 : 0 < sz) (hl : ∀ row ∈ rows, row.length = sz) {i : Nat} {row : List CD} (hi : rows[i]? = some row) :
    ∃ j b us, v = .slice (some ⟨j, 0, none⟩) rows.length rows.length ∧ hget H j = some b ∧ rows.length * sz ≤ b.cells.length ∧ xindexAddr P t v (.int .i64 (i : Nat)) = some (.pointer (some ⟨j, i * sz, none⟩)) ∧
      us = (b.cells.drop (i * sz)).take sz ∧ us.length = sz ∧ i * sz + sz ≤ b.cells.length ∧ (∀ c, c < sz → b.cells[i * sz + c]? = us[c]?) ∧ ValL H row us := by
  have hil := (List.getElem?_eq_some_iff.1 hi).1
  have hrl := hl row (List.mem_of_getElem? hi)
  cases h with
  | nil => simp at hi
  | @sl sz' j b _ h1 h2 h3 h4 =>
    have hsz : sz' = sz := (h3 row (List.mem_of_getElem? hi)).symm.trans hrl
    subst hsz
    have h7 : (i + 1) * sz' ≤ rows.length * sz' := Nat.mul_le_mul_right _ hil
    rw [Nat.add_mul] at h7
    refine ⟨j, b, (b.cells.drop (i * sz')).take sz', rfl, h1, h2, ?_, rfl, by rw [List.length_take, List.length_drop]; omega, by omega, fun c hc => ?_, ⟨by rw [List.length_take, List.length_drop, hrl]; omega, fun c d u hd hu => ?_⟩⟩
    · unfold xindexAddr
      simp only [ht, hs]
      rw [if_pos ⟨by omega, by omega, h0⟩]
      simp
    · rw [List.getElem?_take_of_lt hc, List.getElem?_drop]
    · have hc : c < sz' := by rw [← hrl]; exact (List.getElem?_eq_some_iff.1 hd).1
      rw [List.getElem?_take_of_lt hc, List.getElem?_drop] at hu
      exact h4 i row c d u hi hd hu
theorem load_at {P : Program} {G : AH} {e : TypeId} {sz i j : Nat} {b : Blk} {us : List Value} (hb : hget G j = some b) (hs : szt P e = sz) (h0 : 0 < sz) (hd : isAggD (und P e) = true) (hu : us = (b.cells.drop (i * sz)).take sz) (hle : i * sz + sz ≤ b.cells.length) :
    xload P e (.pointer (some ⟨j, i * sz, none⟩)) G = some (.agg us.toArray) := by
  unfold xload
  simp only [hb, hd, hs, if_true]
  rw [if_pos ⟨h0, hle⟩, hu]
theorem ValL.cons {H : AH} {d : CD} {ds : List CD} {us : List Value} (h : ValL H (d :: ds) us) : ∃ u r, us = u :: r ∧ CD.Val H d u ∧ ValL H ds r := by
  obtain ⟨h1, h2⟩ := h
  cases us with
  | nil => cases h1
  | cons u r => exact ⟨u, r, rfl, h2 0 d u rfl rfl, by simpa using h1, fun c d u hd hu => h2 (c + 1) d u (by simpa using hd) (by simpa using hu)⟩
theorem ValL.nil {H : AH} {us : List Value} (h : ValL H [] us) : us = [] := List.eq_nil_of_length_eq_zero h.1
theorem ValL.split {H : AH} {a b : List CD} {us : List Value} (h : ValL H (a ++ b) us) : ∃ x y, us = x ++ y ∧ ValL H a x ∧ ValL H b y := by
  obtain ⟨h1, h2⟩ := h
  rw [List.length_append] at h1
  refine ⟨us.take a.length, us.drop a.length, (List.take_append_drop _ _).symm, ⟨by rw [List.length_take]; omega, fun c d u hd hu => ?_⟩, ⟨by rw [List.length_drop]; omega, fun c d u hd hu => ?_⟩⟩
  · have hc := (List.getElem?_eq_some_iff.1 hd).1
    rw [List.getElem?_take_of_lt hc] at hu
    exact h2 c d u (by rw [List.getElem?_append_left hc]; exact hd) hu
  · rw [List.getElem?_drop] at hu
    exact h2 (a.length + c) d u (by rw [List.getElem?_append_right (by omega), Nat.add_sub_cancel_left]; exact hd) hu
theorem ValL.ints {H : AH} {k : IntKind} : ∀ {zs : List Int} {us : List Value}, ValL H (zs.map (.int k)) us → us = iv k zs
  | [], us, h => h.nil
  | z :: zs, us, h => by
    obtain ⟨u, r, rfl, hu, hr⟩ := ValL.cons h
    rw [val_int hu, ValL.ints hr]
    rfl
/-- A slice that stays, as long as only what is above is turned. -/
theorem SlV.sls {H G : AH} {F : List Nat} {v : Value} {cells : List Value} (h : SlV H v cells) (hg : ∀ j, j < H.length → hget G j = hget H j) (hl : H.length ≤ G.length) (hF : ∀ j ∈ F, H.length ≤ j) : SlS G F v cells := fun G' hg' =>
  h.keep fun j hj => (hg' j (by omega) (fun hm => by have := hF j hm; omega)).trans (hg j hj)
end Go.Proofs.Ytcdkpeepboofhaa
