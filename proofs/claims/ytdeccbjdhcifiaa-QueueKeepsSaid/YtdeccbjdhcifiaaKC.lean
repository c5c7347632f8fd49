/-
  Data of any depth that come in (structs, arrays, slices of numbers, texts and bools, within one another): their blocks, only read. Over any program.
  Byte strings as lists of numbers: parts, bytes, sameness. Over any program.
  Memory of which all that was there stays. Over any program.
  A region whose order is drawn, with calls that turn memory: the calls stand in one row, whatever else there is only looks at temporaries and at blocks that stay. Over any program.
  A function's contract over blocks that it only reads, where they may be turned behind it. Over any program.
  A region whose order is drawn, without calls: each order told. Over any program.
  A region whose order is drawn, with calls: the orders as a tree. Over any program.
  A region whose order is drawn: pure operations first, wherever they are drawn; what is left, calls among it, each order told (a tree). Over any program.
  A slice of an own block beyond its length; append in place; clear: what these operations do. Over any program.
-/
import Derived.Test.YtdeccbjdhcifiaaKB
namespace Go.Proofs.Ytdeccbjdhcifiaa
open Go Go.RowKit
set_option linter.unusedSimpArgs false
set_option linter.unusedVariables false
set_option maxRecDepth 100000
set_option maxHeartbeats 4000000
section
open Go Go.RowKit Go.ChangeShapes Go.WideShapes Go.ChangeAt
inductive CD where
 | int (k : IntKind) (z : Int) | str (s : ByteArray) | bool (b : Bool) | sl (rows : List (List CD))
inductive CK where
 | int (k : IntKind) | str | bool | sl (ks : List CK)
inductive CD.Ok : CK → CD → Prop
 | int {k : IntKind} {z : Int} (h : (Lit.int k z).wf = true) : CD.Ok (.int k) (.int k z)
 | str {s : ByteArray} (h : s.size ≤ maxLen) : CD.Ok .str (.str s)
 | bool {b : Bool} : CD.Ok .bool (.bool b)
 | sl {ks : List CK} {rows : List (List CD)} (h : rows.length ≤ maxLen) (hl : ∀ row ∈ rows, row.length = ks.length) (hd : ∀ row ∈ rows, ∀ (c : Nat) (k : CK) (d : CD), ks[c]? = some k → row[c]? = some d → CD.Ok k d) : CD.Ok (.sl ks) (.sl rows)
def OkL (ks : List CK) (ds : List CD) : Prop := ds.length = ks.length ∧ ∀ (c : Nat) (k : CK) (d : CD), ks[c]? = some k → ds[c]? = some d → CD.Ok k d
inductive CD.Val (H : AH) : CD → Value → Prop
 | int {k : IntKind} {z : Int} : CD.Val H (.int k z) (.int k z)
 | str {s : ByteArray} : CD.Val H (.str s) (.string s)
 | bool {b : Bool} : CD.Val H (.bool b) (.bool b)
 | nil {a : Option Addr} (ha : ∀ x, a = some x → x.spot = some 0) : CD.Val H (.sl []) (.slice a 0 0)
 | sl {sz j : Nat} {k : Blk} {rows : List (List CD)} (h1 : hget H j = some k) (h2 : rows.length * sz ≤ k.cells.length) (h3 : ∀ row ∈ rows, row.length = sz)
   (h4 : ∀ (i : Nat) (row : List CD) (c : Nat) (d : CD) (x : Value), rows[i]? = some row → row[c]? = some d → k.cells[i * sz + c]? = some x → CD.Val H d x) : CD.Val H (.sl rows) (.slice (some ⟨j, 0, none⟩) rows.length rows.length)
def ValL (H : AH) (ds : List CD) (us : List Value) : Prop := us.length = ds.length ∧ ∀ (c : Nat) (d : CD) (u : Value), ds[c]? = some d → us[c]? = some u → CD.Val H d u
theorem CD.Val.low {H H' : AH} {d : CD} {v : Value} (hl : ∀ j, j < H.length → hget H' j = hget H j) (h : CD.Val H d v) : CD.Val H' d v := by
 induction h with
 | int => exact .int
 | str => exact .str
 | bool => exact .bool
 | nil h => exact .nil h
 | sl h1 h2 h3 h4 ih => exact .sl (by rw [hl _ (hget_lt h1)]; exact h1) h2 h3 ih
theorem ValL.low {H H' : AH} {ds : List CD} {us : List Value} (h : ValL H ds us) (hl : ∀ j, j < H.length → hget H' j = hget H j) : ValL H' ds us :=
 ⟨h.1, fun c d u h1 h2 => (h.2 c d u h1 h2).low hl⟩
inductive CellD (W : World) : CD → Value → Prop
 | int {k : IntKind} {z : Int} : CellD W (.int k z) (.int k z)
 | str {s : ByteArray} : CellD W (.str s) (.string s)
 | bool {b : Bool} : CellD W (.bool b) (.bool b)
 | nil : CellD W (.sl []) (.slice none 0 0)
 | sl {a : Addr} {cap sz : Nat} {rows : List (List CD)} (f : Nat → Nat → Value) (h0 : 0 < sz) (h1 : rows.length ≤ cap) (h2 : ∀ row ∈ rows, row.length = sz)
   (h3 : ∀ (i : Nat) (row : List CD) (c : Nat) (d : CD), rows[i]? = some row → row[c]? = some d → W.cell? (a.add (i * sz + c)) = some (f i c))
   (h4 : ∀ (i : Nat) (row : List CD) (c : Nat) (d : CD), rows[i]? = some row → row[c]? = some d → CellD W d (f i c)) : CellD W (.sl rows) (.slice (some a) rows.length cap)
def CellL (W : World) (ds : List CD) (cs : List Value) : Prop := cs.length = ds.length ∧ ∀ (c : Nat) (d : CD) (x : Value), ds[c]? = some d → cs[c]? = some x → CellD W d x
section
variable {P : Program} {W : World} {H : Type} {enc : TypeId × Value → H}
def fieldsN (P : Program) (f : TypeId → Option (List CK)) : List Field → Nat → Option (List CK)
 | [], _ => some []
 | x :: l, o => (f x.type).bind fun ks => if x.offset = o ∧ P.cellsOf x.type = ks.length then (fieldsN P f l (o + ks.length)).map (ks ++ ·) else none
def kindsN (P : Program) : Nat → TypeId → Option (List CK)
 | 0, _ => none
 | n + 1, t => match P.underlying t with
  | some (.int k) => some [.int k]
  | some .string => some [.str]
  | some .bool => some [.bool]
  | some (.slice e) => (kindsN P n e).bind fun ks => if P.cellsOf e = ks.length ∧ 0 < ks.length then some [.sl ks] else none
  | some (.array m e) => (kindsN P n e).bind fun ks => if P.cellsOf e = ks.length ∧ P.cellsOf t = m * ks.length then some (List.replicate m ks).flatten else none
  | some (.struct fs) => (fieldsN P (kindsN P n) fs.toList 0).bind fun ks => if P.cellsOf t = ks.length then some ks else none
  | _ => none
theorem pieces : ∀ (ps : List (List CK)) (cs : List Value), cs.length = ps.flatten.length →
  (∀ (i : Nat) (ks : List CK), ps[i]? = some ks → ∃ ds, OkL ks ds ∧ CellL W ds ((cs.drop (ps.take i).flatten.length).take ks.length)) → ∃ ds, OkL ps.flatten ds ∧ CellL W ds cs
 | [], cs, hl, _ => by
  have : cs = [] := List.eq_nil_of_length_eq_zero (by simpa using hl)
  subst this
  exact ⟨[], ⟨rfl, fun c k d h => by simp at h⟩, ⟨rfl, fun c d x h => by simp at h⟩⟩
 | ks :: ps, cs, hl, h => by
  rw [List.flatten_cons, List.length_append] at hl
  obtain ⟨d1, o1, c1⟩ := h 0 ks rfl
  simp only [List.take_zero, List.flatten_nil, List.length_nil, List.drop_zero] at c1
  obtain ⟨d2, o2, c2⟩ := pieces ps (cs.drop ks.length) (by rw [List.length_drop]; omega) (fun i ks' hi => by
   obtain ⟨ds, o, c⟩ := h (i + 1) ks' (by simpa using hi)
   rw [List.take_succ_cons, List.flatten_cons, List.length_append, ← List.drop_drop] at c
   exact ⟨ds, o, c⟩)
  have l1 : d1.length = ks.length := o1.1
  have l1' : (cs.take ks.length).length = ks.length := by rw [List.length_take]; omega
  refine ⟨d1 ++ d2, ⟨by rw [List.flatten_cons, List.length_append, List.length_append, o1.1, o2.1], fun c k d hk hd => ?_⟩, ⟨?_, fun c d x hd hx => ?_⟩⟩
  ·rw [List.flatten_cons] at hk
   rcases Nat.lt_or_ge c ks.length with hc | hc
   ·rw [List.getElem?_append_left hc] at hk
    rw [List.getElem?_append_left (by omega)] at hd
    exact o1.2 c k d hk hd
   ·rw [List.getElem?_append_right hc] at hk
    rw [List.getElem?_append_right (by omega), l1] at hd
    exact o2.2 _ k d hk hd
  ·have := c2.1
   rw [List.length_drop] at this
   have := o1.1
   rw [List.length_append]; omega
  ·rcases Nat.lt_or_ge c ks.length with hc | hc
   ·rw [List.getElem?_append_left (by omega)] at hd
    exact c1.2 c d x hd (by rw [List.getElem?_take_of_lt hc]; exact hx)
   ·rw [List.getElem?_append_right (by omega), l1] at hd
    exact c2.2 _ d x hd (by rw [List.getElem?_drop, show ks.length + (c - ks.length) = c by omega]; exact hx)
theorem fieldsN_pieces {f : TypeId → Option (List CK)} : ∀ (l : List Field) (o : Nat) (ks : List CK), fieldsN P f l o = some ks →
  ∃ ps : List (List CK), ks = ps.flatten ∧ ps.length = l.length ∧ ∀ (i : Nat) (x : Field), l[i]? = some x → ∃ k, ps[i]? = some k ∧ f x.type = some k ∧ x.offset = o + (ps.take i).flatten.length ∧ P.cellsOf x.type = k.length
 | [], o, ks, h => by
  cases h
  exact ⟨[], rfl, rfl, fun i x hx => by simp at hx⟩
 | x :: l, o, ks, h => by
  unfold fieldsN at h
  cases hk : f x.type with
  | none => rw [hk] at h; cases h
  | some k =>
   rw [hk] at h
   simp only [Option.bind_some] at h
   split at h
   case isFalse => cases h
   rename_i hc
   cases hr : fieldsN P f l (o + k.length) with
   | none => rw [hr] at h; cases h
   | some kr =>
    rw [hr] at h
    cases h
    obtain ⟨ps, rfl, hpl, hp⟩ := fieldsN_pieces l _ kr hr
    refine ⟨k :: ps, rfl, by simp [hpl], fun i y hy => ?_⟩
    cases i with
    | zero =>
     cases hy
     exact ⟨k, rfl, hk, by simp [hc.1], hc.2⟩
    | succ i =>
     obtain ⟨k', h1, h2, h3, h4⟩ := hp i y (by simpa using hy)
     exact ⟨k', by simpa using h1, h2, by rw [h3, List.take_succ_cons, List.flatten_cons, List.length_append]; omega, h4⟩
theorem flatten_rep {β : Type} (m i : Nat) (ks : List β) (hi : i < m) : ((List.replicate m ks).take i).flatten.length = i * ks.length ∧ (List.replicate m ks)[i]? = some ks := by
 refine ⟨?_, by rw [List.getElem?_replicate, if_pos hi]⟩
 rw [List.take_replicate, List.length_flatten, List.map_replicate, List.sum_replicate_nat, Nat.min_eq_left (Nat.le_of_lt hi)]
theorem open_cells {base : Nat} {sp : Nat → Bool} {hd : Bool} : ∀ (fuel n : Nat) (t : TypeId) (ks : List CK) (cs : List Value) (y : DataW H × List MemPlace), kindsN P n t = some ks → DataW.trod enc P W base sp hd fuel t cs = some y → ∃ ds, OkL ks ds ∧ CellL W ds cs := by
 intro fuel
 induction fuel with
 | zero => intro n t ks cs y _ h; simp [DataW.trod] at h
 | succ fuel ih =>
  intro n t ks cs y hk h
  cases n with
  | zero => cases hk
  | succ n =>
   unfold kindsN at hk
   split at hk
   ·rename_i k hu
    cases hk
    obtain ⟨z, rfl, _, hw⟩ := DataW.trod_int hu h
    exact ⟨[.int k z], ⟨rfl, fun c k d h1 h2 => by cases c with | zero => cases h1; cases h2; exact .int hw | succ c => simp at h1⟩, ⟨rfl, fun c d x h1 h2 => by cases c with | zero => cases h1; cases h2; exact .int | succ c => simp at h1⟩⟩
   ·rename_i hu
    cases hk
    obtain ⟨s, rfl, _, hw⟩ := DataW.trod_string hu h
    exact ⟨[.str s], ⟨rfl, fun c k d h1 h2 => by cases c with | zero => cases h1; cases h2; exact .str hw | succ c => simp at h1⟩, ⟨rfl, fun c d x h1 h2 => by cases c with | zero => cases h1; cases h2; exact .str | succ c => simp at h1⟩⟩
   ·rename_i hu
    cases hk
    obtain ⟨b, rfl⟩ := trod_bool' hu h
    exact ⟨[.bool b], ⟨rfl, fun c k d h1 h2 => by cases c with | zero => cases h1; cases h2; exact .bool | succ c => simp at h1⟩, ⟨rfl, fun c d x h1 h2 => by cases c with | zero => cases h1; cases h2; exact .bool | succ c => simp at h1⟩⟩
   ·rename_i e hu
    cases hke : kindsN P n e with
    | none => rw [hke] at hk; cases hk
    | some ke =>
     rw [hke] at hk
     simp only [Option.bind_some] at hk
     split at hk
     case isFalse => cases hk
     rename_i hc
     obtain ⟨hc, h0⟩ := hc
     cases hk
     rcases DataW.trod_slice hu h with ⟨rfl, _⟩ | ⟨a, len, cap, elems, rest, m, hfm, rfl, _, hb, hl, hmx, hlen, hel, _, _⟩
     ·exact ⟨[.sl []], ⟨rfl, fun c k d h1 h2 => by cases c with | zero => cases h1; cases h2; exact .sl (Nat.zero_le _) (fun r hr => by cases hr) (fun r hr => by cases hr) | succ c => simp at h1⟩, ⟨rfl, fun c d x h1 h2 => by cases c with | zero => cases h1; cases h2; exact .nil | succ c => simp at h1⟩⟩
     ·obtain rfl : fuel = m := by omega
      have each : ∀ i, i < len → ∃ dx : List CD × List Value, OkL ke dx.1 ∧ CellL W dx.1 dx.2 ∧ ∀ c, c < ke.length → W.cell? (a.add (i * ke.length + c)) = dx.2[c]? := by
       intro i hi
       have h2 := hel i hi
       rw [hc, List.getElem?_eq_getElem (show i < elems.length by omega), Option.bind_eq_some_iff] at h2
       obtain ⟨cs', hcs, hy⟩ := h2
       obtain ⟨ds, o, c⟩ := ih n e ke cs' _ hke hy
       have hcell := (World.cells?_some hcs).2.2
       exact ⟨(ds, cs'), o, c, fun q hq => by rw [← hcell q hq, Addr.add_add]⟩
      obtain ⟨X, hX1, hX2⟩ := choose_list (fun i (_ : Nat) (dx : List CD × List Value) => OkL ke dx.1 ∧ CellL W dx.1 dx.2 ∧ ∀ c, c < ke.length → W.cell? (a.add (i * ke.length + c)) = dx.2[c]?) (List.range len) 0 (fun i x hx => by
       have := (List.getElem?_eq_some_iff.1 hx).1
       rw [List.length_range] at this
       rw [Nat.zero_add]
       exact each i this)
      rw [List.length_range] at hX1
      have hX : ∀ i dx, X[i]? = some dx → OkL ke dx.1 ∧ CellL W dx.1 dx.2 ∧ ∀ c, c < ke.length → W.cell? (a.add (i * ke.length + c)) = dx.2[c]? := fun i dx hi => by
       have hil := (List.getElem?_eq_some_iff.1 hi).1
       obtain ⟨y, hy1, hy2⟩ := hX2 i i (List.getElem?_range (by omega))
       rw [Nat.zero_add] at hy2
       rw [hi] at hy1
       cases hy1
       exact hy2
      have hrow : ∀ i row, (X.map (·.1))[i]? = some row → ∃ cv, OkL ke row ∧ CellL W row cv ∧ X[i]? = some (row, cv) ∧ ∀ c, c < ke.length → W.cell? (a.add (i * ke.length + c)) = cv[c]? := fun i row hr => by
       rw [List.getElem?_map] at hr
       cases hq : X[i]? with
       | none => rw [hq] at hr; cases hr
       | some dx =>
        rw [hq] at hr
        cases hr
        obtain ⟨q1, q2, q3⟩ := hX i dx hq
        exact ⟨dx.2, q1, q2, rfl, q3⟩
      have hmem : ∀ row ∈ X.map (·.1), OkL ke row := fun row hr => by
       obtain ⟨i, hi⟩ := List.mem_iff_getElem?.1 hr
       obtain ⟨cv, q, _⟩ := hrow i row hi
       exact q
      have hlen2 : (X.map (·.1)).length = len := by rw [List.length_map, hX1]
      refine ⟨[.sl (X.map (·.1))], ⟨rfl, fun c k d h1 h2 => ?_⟩, ⟨rfl, fun c d x h1 h2 => ?_⟩⟩
      ·cases c with
       | zero =>
        cases h1; cases h2
        exact .sl (by rw [hlen2]; omega) (fun row hr => (hmem row hr).1) (fun row hr => (hmem row hr).2)
       | succ c => simp at h1
      ·cases c with
       | zero =>
        cases h1; cases h2
        have hs := CellD.sl (W := W) (a := a) (cap := cap) (sz := ke.length) (rows := X.map (·.1)) (fun i c => (((X.getD i ([], [])).2).getD c undef)) h0 (by rw [hlen2]; exact hl) (fun row hr => (hmem row hr).1) (fun i row c d hi hc2 => ?_) (fun i row c d hi hc2 => ?_)
        ·rwa [hlen2] at hs
        ·obtain ⟨cv, q1, q2, q3, q4⟩ := hrow i row hi
         have hcl : c < ke.length := by rw [← q1.1]; exact (List.getElem?_eq_some_iff.1 hc2).1
         rw [q4 c hcl]
         have hcv : c < cv.length := by rw [q2.1, q1.1]; exact hcl
         simp [List.getD_eq_getElem?_getD, q3, hcv]
        ·obtain ⟨cv, q1, q2, q3, q4⟩ := hrow i row hi
         have hcl : c < ke.length := by rw [← q1.1]; exact (List.getElem?_eq_some_iff.1 hc2).1
         have hcv : c < cv.length := by rw [q2.1, q1.1]; exact hcl
         refine q2.2 c d _ hc2 ?_
         simp [List.getD_eq_getElem?_getD, q3, hcv]
       | succ c => simp at h1
   ·rename_i m e hu
    cases hke : kindsN P n e with
    | none => rw [hke] at hk; cases hk
    | some ke =>
     rw [hke] at hk
     simp only [Option.bind_some] at hk
     split at hk
     case isFalse => cases hk
     rename_i hc
     obtain ⟨hc, hct⟩ := hc
     cases hk
     obtain ⟨xs, m2, hfm, _, hl, hn, hel⟩ := DataW.trod_array hu h
     obtain rfl : fuel = m2 := by omega
     refine pieces (List.replicate m ke) cs (by rw [hl, hct, List.length_flatten, List.map_replicate, List.sum_replicate_nat]) (fun i ks hi => ?_)
     have him : i < m := by
      have := (List.getElem?_eq_some_iff.1 hi).1
      simpa using this
     obtain ⟨e1, e2⟩ := flatten_rep m i ke him
     rw [e2] at hi
     cases hi
     have h3 := hel i him
     rw [List.getElem?_eq_getElem (show i < xs.length by omega), hc] at h3
     rw [e1]
     exact ih n e ke _ _ hke h3
   ·rename_i fs hu
    cases hf : fieldsN P (kindsN P n) fs.toList 0 with
    | none => rw [hf] at hk; cases hk
    | some kf =>
     rw [hf] at hk
     simp only [Option.bind_some] at hk
     split at hk
     case isFalse => cases hk
     rename_i hc
     cases hk
     obtain ⟨xs, m2, hfm, _, hl, hn, hel⟩ := DataW.trod_struct hu h
     obtain rfl : fuel = m2 := by omega
     obtain ⟨ps, rfl, hpl, hp⟩ := fieldsN_pieces _ _ _ hf
     refine pieces ps cs (by rw [hl, hc]) (fun i ks hi => ?_)
     have him : i < fs.toList.length := by rw [← hpl]; exact (List.getElem?_eq_some_iff.1 hi).1
     obtain ⟨x, hx⟩ : ∃ x, fs.toList[i]? = some x := ⟨_, List.getElem?_eq_getElem him⟩
     obtain ⟨k', h1, h2, h3, h4⟩ := hp i x hx
     rw [hi] at h1
     cases h1
     have h5 := hel i x (by simpa using hx)
     rw [h3, h4, Nat.zero_add, List.getElem?_eq_getElem (by simp at him; omega)] at h5
     exact ih n x.type ks _ _ h2 h5
   ·cases hk
end
structure ToldL (W : World) (n : Nat) (E : List (Ent × Blk)) (us : List Value) (l : List (CD × Value)) : Prop where
 len : us.length = l.length
 ro : ∀ (A B : List (Ent × Blk)), A.length = n → ∀ x ∈ E, x.1.b < W.heap.size ∧ x.2 = ⟨x.2.cells, x.2.ty, x.1.es⟩ ∧ ∃ cs fr, W.heap[x.1.b]? = some (.cells cs x.2.ty fr) ∧ ∀ (j : Nat) (u : Value), x.2.cells[j]? = some u → ∃ y, cs[x.1.o + j]? = some y ∧ V1 ((A ++ (E ++ B)).map (·.1)) u y
 rel : ∀ (A B : List (Ent × Blk)), A.length = n → ∀ (q : Nat) (u : Value) (p : CD × Value), us[q]? = some u → l[q]? = some p → V1 ((A ++ (E ++ B)).map (·.1)) u p.2
 val : ∀ (A B : List (Ent × Blk)), A.length = n → ∀ (q : Nat) (u : Value) (p : CD × Value), us[q]? = some u → l[q]? = some p → p.1.Val ((A ++ (E ++ B)).map fun x => some x.2) u
theorem tell_list {W : World} : ∀ (l : List (CD × Value)), (∀ p ∈ l, ∀ n, ∃ E u, ToldL W n E [u] [p]) → ∀ n, ∃ E us, ToldL W n E us l
 | [], _, n => ⟨[], [], rfl, fun A B _ x hx => (by cases hx), fun A B _ q u p h => (by simp at h), fun A B _ q u p h => (by simp at h)⟩
 | p :: l, h, n => by
  obtain ⟨E1, u, t1⟩ := h p (by simp) n
  obtain ⟨E2, us, t2⟩ := tell_list l (fun p hp => h p (by simp [hp])) (n + E1.length)
  have e1 : ∀ (A B : List (Ent × Blk)), A ++ ((E1 ++ E2) ++ B) = A ++ (E1 ++ (E2 ++ B)) := fun A B => by simp
  have e2 : ∀ (A B : List (Ent × Blk)), A ++ ((E1 ++ E2) ++ B) = (A ++ E1) ++ (E2 ++ B) := fun A B => by simp
  refine ⟨E1 ++ E2, u :: us, by simp [t2.len], fun A B hA x hx => ?_, fun A B hA q v p' hq hp => ?_, fun A B hA q v p' hq hp => ?_⟩
  ·rcases List.mem_append.1 hx with hx | hx
   ·rw [e1]; exact t1.ro A (E2 ++ B) hA x hx
   ·rw [e2]; exact t2.ro (A ++ E1) B (by rw [List.length_append, hA]) x hx
  ·cases q with
   | zero => rw [e1]; exact t1.rel A (E2 ++ B) hA 0 v p' hq hp
   | succ q => rw [e2]; exact t2.rel (A ++ E1) B (by rw [List.length_append, hA]) q v p' (by simpa using hq) (by simpa using hp)
  ·cases q with
   | zero => rw [e1]; exact t1.val A (E2 ++ B) hA 0 v p' hq hp
   | succ q => rw [e2]; exact t2.val (A ++ E1) B (by rw [List.length_append, hA]) q v p' (by simpa using hq) (by simpa using hp)
theorem single_q {β γ : Type} {R : β → γ → Prop} {x : β} {y : γ} (h : R x y) : ∀ (q : Nat) (u : β) (p : γ), [x][q]? = some u → [y][q]? = some p → R u p := by
 intro q u p h1 h2
 cases q with
 | zero => cases h1; cases h2; exact h
 | succ q => simp at h1
theorem told_plain {W : World} {d : CD} {x : Value} (hp : plain1 x = true) (hv : ∀ H : AH, d.Val H x) (n : Nat) : ∃ E u, ToldL W n E [u] [(d, x)] :=
 ⟨[], x, rfl, fun A B _ y hy => (by cases hy), fun A B _ => single_q (R := fun (u : Value) (p : CD × Value) => V1 _ u p.2) (.plain hp), fun A B _ => single_q (R := fun (u : Value) (p : CD × Value) => p.1.Val _ u) (hv _)⟩
theorem div_mod_at {i c sz : Nat} (hc : c < sz) : (i * sz + c) / sz = i ∧ (i * sz + c) % sz = c := by
 have h0 : 0 < sz := by omega
 constructor
 ·rw [Nat.add_comm, Nat.add_mul_div_right _ _ h0, Nat.div_eq_of_lt hc, Nat.zero_add]
 ·rw [Nat.add_comm, Nat.add_mul_mod_self_right, Nat.mod_eq_of_lt hc]
theorem tell_one {W : World} {d : CD} {x : Value} (h : CellD W d x) : ∀ n, ∃ E u, ToldL W n E [u] [(d, x)] := by
 induction h with
 | int => exact told_plain rfl fun _ => .int
 | str => exact told_plain rfl fun _ => .str
 | bool => exact told_plain rfl fun _ => .bool
 | nil => exact told_plain rfl fun _ => .nil (fun x h => by cases h)
 | @sl a cap sz rows f h0 h1 h2 h3 h4 ih =>
  intro n
  rcases Nat.eq_zero_or_pos rows.length with hr0 | hr0
  ·have : rows = [] := List.eq_nil_of_length_eq_zero hr0
   subst this
   exact ⟨[], .slice (some ⟨0, 0, some 0⟩) 0 0, rfl, fun A B _ y hy => (by cases hy), fun A B _ => single_q (R := fun (u : Value) (p : CD × Value) => V1 _ u p.2) .sl0, fun A B _ => single_q (R := fun (u : Value) (p : CD × Value) => p.1.Val _ u) (.nil (fun x h => by cases h; rfl))⟩
  have at_ : ∀ {i c : Nat}, i < rows.length → c < sz → ∃ row d, rows[i]? = some row ∧ row[c]? = some d := fun {i c} hi hc => by
   have hm := h2 rows[i] (List.getElem_mem hi)
   exact ⟨rows[i], rows[i][c]'(by omega), List.getElem?_eq_getElem hi, List.getElem?_eq_getElem (by omega)⟩
  obtain ⟨row0, d0, hr, hd⟩ := at_ hr0 h0
  have hc0 := h3 0 row0 0 d0 hr hd
  rw [Nat.zero_mul, Nat.zero_add] at hc0
  obtain ⟨b, off, spot⟩ := a
  have hsp : spot = none := by
   cases spot with
   | none => rfl
   | some s =>
    simp only [World.cell?, Addr.add] at hc0
    split at hc0
    ·split at hc0 <;> simp_all
    ·cases hc0
  subst hsp
  have hblk : ∃ cs ty fr, W.heap[b]? = some (.cells cs ty fr) := by
   rw [add_none'] at hc0
   simp only [World.cell?] at hc0
   split at hc0
   ·rename_i c t f hh; exact ⟨c, t, f, hh⟩
   ·cases hc0
  obtain ⟨cs, ty, fr, hh⟩ := hblk
  obtain ⟨l, hl⟩ : ∃ l : List (CD × Value), l = (List.range (rows.length * sz)).map fun q => (((rows.getD (q / sz) []).getD (q % sz) (.bool false)), f (q / sz) (q % sz)) := ⟨_, rfl⟩
  have hll : l.length = rows.length * sz := by rw [hl]; simp
  have hlt : ∀ {i c : Nat}, i < rows.length → c < sz → i * sz + c < rows.length * sz := fun {i c} hi hc => by
   have : (i + 1) * sz ≤ rows.length * sz := Nat.mul_le_mul_right _ hi
   rw [Nat.add_mul] at this
   omega
  have hget_l : ∀ {i c : Nat} {row : List CD} {d : CD}, rows[i]? = some row → row[c]? = some d → l[i * sz + c]? = some (d, f i c) := fun {i c row d} hr hd => by
   have hi := (List.getElem?_eq_some_iff.1 hr).1
   have hc : c < sz := by rw [← h2 row (List.mem_of_getElem? hr)]; exact (List.getElem?_eq_some_iff.1 hd).1
   obtain ⟨q1, q2⟩ := div_mod_at (i := i) hc
   rw [hl, List.getElem?_map, List.getElem?_range (hlt hi hc)]
   simp only [Option.map_some, q1, q2, List.getD_eq_getElem?_getD, hr, hd, Option.getD_some]
  have hmem : ∀ q p, l[q]? = some p → ∃ i c row, rows[i]? = some row ∧ row[c]? = some p.1 ∧ p.2 = f i c ∧ q = i * sz + c ∧ c < sz ∧ i < rows.length := fun q p hq => by
   have hql : q < rows.length * sz := by rw [← hll]; exact (List.getElem?_eq_some_iff.1 hq).1
   have hi : q / sz < rows.length := Nat.div_lt_of_lt_mul (by rw [Nat.mul_comm]; exact hql)
   have hc : q % sz < sz := Nat.mod_lt _ h0
   obtain ⟨row, d, k1, k2⟩ := at_ hi hc
   have e1 : q / sz * sz + q % sz = q := by rw [Nat.mul_comm]; exact Nat.div_add_mod q sz
   have := hget_l k1 k2
   rw [e1, hq] at this
   cases this
   exact ⟨_, _, row, k1, k2, rfl, e1.symm, hc, hi⟩
  obtain ⟨E, us, t⟩ := tell_list l (fun p hp => by
   obtain ⟨q, hq⟩ := List.mem_iff_getElem?.1 hp
   obtain ⟨i, c, row, k1, k2, k3, _⟩ := hmem q p hq
   have := ih i row c p.1 k1 k2
   rw [← k3] at this
   exact this) (n + 1)
  have e1 : ∀ (A B : List (Ent × Blk)), A ++ ((((⟨b, off, 0, none⟩ : Ent), (⟨us, ty, none⟩ : Blk)) :: E) ++ B) = (A ++ [((⟨b, off, 0, none⟩ : Ent), (⟨us, ty, none⟩ : Blk))]) ++ (E ++ B) := fun A B => by simp
  have hAl : ∀ (A : List (Ent × Blk)), A.length = n → (A ++ [((⟨b, off, 0, none⟩ : Ent), (⟨us, ty, none⟩ : Blk))]).length = n + 1 := fun A h => by simp [h]
  have hat : ∀ (A B : List (Ent × Blk)), A.length = n → (A ++ ((((⟨b, off, 0, none⟩ : Ent), (⟨us, ty, none⟩ : Blk)) :: E) ++ B))[n]? = some ((⟨b, off, 0, none⟩ : Ent), (⟨us, ty, none⟩ : Blk)) := fun A B h => by
   rw [List.getElem?_append_right (by omega), h, Nat.sub_self]; rfl
  refine ⟨((⟨b, off, 0, none⟩ : Ent), (⟨us, ty, none⟩ : Blk)) :: E, .slice (some ⟨n, 0, none⟩) rows.length rows.length, rfl, fun A B hA x hx => ?_, fun A B hA q u p hq hp => ?_, fun A B hA q u p hq hp => ?_⟩
  ·rcases List.mem_cons.1 hx with rfl | hx
   ·refine ⟨(Array.getElem?_eq_some_iff.1 hh).1, rfl, cs, fr, hh, fun j u hu => ?_⟩
    have hj : j < l.length := by rw [← t.len]; exact (List.getElem?_eq_some_iff.1 hu).1
    obtain ⟨p, hp⟩ : ∃ p, l[j]? = some p := ⟨_, List.getElem?_eq_getElem hj⟩
    obtain ⟨i, c, row, k1, k2, k3, k4, k5, k6⟩ := hmem j p hp
    have hcell := h3 i row c p.1 k1 k2
    rw [add_none', ← k4, ← k3] at hcell
    simp only [World.cell?, hh] at hcell
    refine ⟨p.2, by simpa using hcell, ?_⟩
    rw [e1]
    exact t.rel _ B (hAl A hA) j u p hu hp
   ·rw [e1]
    exact t.ro _ B (hAl A hA) x hx
  ·cases q with
   | succ q => simp at hq
   | zero =>
    cases hq; cases hp
    have := V1.sl (m := (A ++ ((((⟨b, off, 0, none⟩ : Ent), (⟨us, ty, none⟩ : Blk)) :: E) ++ B)).map (·.1)) (i := n) (off := 0) (len := rows.length) (c := cap) (e := ⟨b, off, 0, none⟩) (by rw [List.getElem?_map, hat A B hA]; rfl) h1 (fun _ s hs => by cases hs)
    exact this
  ·cases q with
   | succ q => simp at hq
   | zero =>
    cases hq; cases hp
    refine .sl (sz := sz) (j := n) (k := ⟨us, ty, none⟩) ?_ (by show _ ≤ us.length; rw [t.len, hll]; exact Nat.le_refl _) h2 (fun i row c d x hi hc hx => ?_)
    ·unfold hget
     rw [List.getElem?_map, hat A B hA]
     rfl
    ·have := t.val _ B (hAl A hA) (i * sz + c) x (d, f i c) hx (hget_l hi hc)
     rwa [← e1] at this
theorem tell_cells {W : World} {ds : List CD} {cs : List Value} (h : CellL W ds cs) (n : Nat) : ∃ E us, ToldL W n E us (ds.zip cs) := by
 refine tell_list _ (fun p hp => ?_) n
 obtain ⟨q, hq⟩ := List.mem_iff_getElem?.1 hp
 rw [List.getElem?_zip_eq_some] at hq
 obtain ⟨d, x⟩ := p
 exact tell_one (h.2 q d x hq.1 hq.2)
theorem ToldL.valL {W : World} {n : Nat} {E : List (Ent × Blk)} {us : List Value} {ds : List CD} {cs : List Value} (h : ToldL W n E us (ds.zip cs)) (hc : CellL W ds cs) {A B : List (Ent × Blk)} (hA : A.length = n) : ValL ((A ++ (E ++ B)).map fun x => some x.2) ds us := by
 have hl : us.length = ds.length := by rw [h.len, List.length_zip, hc.1, Nat.min_self]
 refine ⟨hl, fun c d u h1 h2 => ?_⟩
 have hcl : c < cs.length := by rw [hc.1]; exact (List.getElem?_eq_some_iff.1 h1).1
 exact h.val A B hA c u (d, cs[c]) h2 (by rw [List.getElem?_zip_eq_some]; exact ⟨h1, List.getElem?_eq_getElem hcl⟩)
theorem ToldL.vAgg {W : World} {n : Nat} {E : List (Ent × Blk)} {us : List Value} {ds : List CD} {cs : Array Value} (h : ToldL W n E us (ds.zip cs.toList)) (hc : CellL W ds cs.toList) {A B : List (Ent × Blk)} (hA : A.length = n) : V ((A ++ (E ++ B)).map (·.1)) (.agg us.toArray) (.agg cs) := by
 have hl : us.length = ds.length := by rw [h.len, List.length_zip, hc.1, Nat.min_self]
 refine .two (.agg (by have h1 := hc.1; simp only [Array.length_toList] at h1; simp only [List.size_toArray]; omega) (fun i x hx => ?_))
 have hx' : us[i]? = some x := by simpa using hx
 have hi : i < us.length := (List.getElem?_eq_some_iff.1 hx').1
 have hic : i < cs.toList.length := by rw [hc.1]; omega
 refine ⟨cs.toList[i], by simp at hic; simp [hic], h.rel A B hA i x (ds[i]'(by omega), cs.toList[i]) hx' (by rw [List.getElem?_zip_eq_some]; exact ⟨List.getElem?_eq_getElem _, List.getElem?_eq_getElem hic⟩)⟩
theorem ToldL.vOne {W : World} {n : Nat} {E : List (Ent × Blk)} {us : List Value} {ds : List CD} {x : Value} (h : ToldL W n E us (ds.zip [x])) (hc : CellL W ds [x]) {A B : List (Ent × Blk)} (hA : A.length = n) : ∃ u, us = [u] ∧ V ((A ++ (E ++ B)).map (·.1)) u x := by
 have hd := hc.1
 simp only [List.length_singleton] at hd
 have hl : us.length = 1 := by rw [h.len, List.length_zip, ← hd]; rfl
 match us, hl, h with
 | [u], _, h =>
  obtain ⟨d, rfl⟩ : ∃ d, ds = [d] := List.length_eq_one_iff.1 hd.symm
  exact ⟨u, rfl, .one (h.rel A B hA 0 u (d, x) rfl rfl)⟩
section
variable {P : Program} {W : World} {H : Type} {enc : TypeId × Value → H}
theorem open_deep {base : Nat} {sp : Nat → Bool} {hd : Bool} {t : TypeId} {v : Value} {d : DataW H} {p : List MemPlace} (n : Nat) {ks : List CK} (hk : kindsN P n t = some ks) (h : DataW.Trod enc P W base sp hd t v d p) : ∃ ds, OkL ks ds ∧ CellL W ds v.cells.toList := by
 obtain ⟨fuel, hf⟩ := h
 exact open_cells fuel n t ks _ _ hk hf
def aggT (P : Program) (t : TypeId) : Bool := match P.underlying t with | some (.struct _) => true | some (.array _ _) => true | _ => false
theorem agg_of {r : Reach} {b0 : Nat} {t : TypeId} {v : Value} (ha : aggT P t = true) (h : Value.okWide P W r b0 t v) : ∃ cs, v = .agg cs := by
 unfold aggT at ha
 unfold Value.okWide at h
 split at ha
 ·rename_i fs hu
  simp only [hu] at h
  obtain ⟨cs, h, _⟩ := h
  exact ⟨cs, h⟩
 ·rename_i m e hu
  simp only [hu] at h
  obtain ⟨cs, h, _⟩ := h
  exact ⟨cs, h⟩
 ·cases ha
theorem slice_of {r : Reach} {b0 : Nat} {t e : TypeId} {v : Value} (ht : P.underlying t = some (.slice e)) (hv : Value.okWide P W r b0 t v) : v.cells.toList = [v] := by
 obtain ⟨a0, l0, c0, rfl⟩ := okWide_slice ht hv
 rfl
end
theorem rows_of {β : Type} {f : β → List CD} {R : β → Prop} : ∀ (rows : List (List CD)), (∀ row ∈ rows, ∃ z, row = f z ∧ R z) → ∃ zs : List β, rows = zs.map f ∧ ∀ z ∈ zs, R z
 | [], _ => ⟨[], rfl, fun z hz => by cases hz⟩
 | row :: rows, h => by
  obtain ⟨z, rfl, hz⟩ := h row (by simp)
  obtain ⟨zs, rfl, hzs⟩ := rows_of rows (fun r hr => h r (by simp [hr]))
  exact ⟨z :: zs, rfl, fun y hy => by
   rcases List.mem_cons.1 hy with rfl | hy
   ·exact hz
   ·exact hzs y hy⟩
theorem ok_sl {ks : List CK} {d : CD} (h : CD.Ok (.sl ks) d) : ∃ rows, d = .sl rows ∧ rows.length ≤ maxLen ∧ ∀ row ∈ rows, OkL ks row := by
 cases h with
 | sl h1 h2 h3 => exact ⟨_, rfl, h1, fun row hr => ⟨h2 row hr, h3 row hr⟩⟩
theorem ok_int {k : IntKind} {d : CD} (h : CD.Ok (.int k) d) : ∃ z, d = .int k z ∧ (Lit.int k z).wf = true := by
 cases h with
 | int h => exact ⟨_, rfl, h⟩
theorem ok_str {d : CD} (h : CD.Ok .str d) : ∃ s, d = .str s ∧ s.size ≤ maxLen := by
 cases h with
 | str h => exact ⟨_, rfl, h⟩
theorem OkL.nil {ds : List CD} (h : OkL [] ds) : ds = [] := List.eq_nil_of_length_eq_zero h.1
theorem OkL.cons {k : CK} {ks : List CK} {ds : List CD} (h : OkL (k :: ks) ds) : ∃ d r, ds = d :: r ∧ CD.Ok k d ∧ OkL ks r := by
 obtain ⟨h1, h2⟩ := h
 cases ds with
 | nil => cases h1
 | cons d r => exact ⟨d, r, rfl, h2 0 k d rfl rfl, by simpa using h1, fun c k d hk hd => h2 (c + 1) k d (by simpa using hk) (by simpa using hd)⟩
theorem OkL.split {a b : List CK} {ds : List CD} (h : OkL (a ++ b) ds) : ∃ x y, ds = x ++ y ∧ OkL a x ∧ OkL b y := by
 obtain ⟨h1, h2⟩ := h
 rw [List.length_append] at h1
 refine ⟨ds.take a.length, ds.drop a.length, (List.take_append_drop _ _).symm, ⟨by rw [List.length_take]; omega, fun c k d hk hd => ?_⟩, ⟨by rw [List.length_drop]; omega, fun c k d hk hd => ?_⟩⟩
 ·have hc := (List.getElem?_eq_some_iff.1 hk).1
  rw [List.getElem?_take_of_lt hc] at hd
  exact h2 c k d (by rw [List.getElem?_append_left hc]; exact hk) hd
 ·rw [List.getElem?_drop] at hd
  exact h2 (a.length + c) k d (by rw [List.getElem?_append_right (by omega), Nat.add_sub_cancel_left]; exact hk) hd
theorem OkL.ints {k : IntKind} : ∀ {n : Nat} {ds : List CD}, OkL (List.replicate n (.int k)) ds → ∃ zs : List Int, ds = zs.map (.int k) ∧ zs.length = n ∧ ∀ z ∈ zs, (Lit.int k z).wf = true
 | 0, ds, h => ⟨[], h.nil, rfl, fun z hz => by cases hz⟩
 | n + 1, ds, h => by
  rw [List.replicate_succ] at h
  obtain ⟨d, r, rfl, hd, hr⟩ := h.cons
  obtain ⟨z, rfl, hz⟩ := ok_int hd
  obtain ⟨zs, rfl, hl, hzs⟩ := OkL.ints hr
  exact ⟨z :: zs, rfl, by simp [hl], fun y hy => by
   rcases List.mem_cons.1 hy with rfl | hy
   ·exact hz
   ·exact hzs y hy⟩
theorem ok_ints {k : IntKind} {d : CD} (h : CD.Ok (.sl [.int k]) d) : ∃ zs : List Int, d = .sl (zs.map fun z => [.int k z]) ∧ (∀ z ∈ zs, (Lit.int k z).wf = true) ∧ zs.length ≤ maxLen := by
 obtain ⟨rows, rfl, hm, hr⟩ := ok_sl h
 obtain ⟨zs, rfl, hz⟩ := rows_of (f := fun z => [CD.int k z]) (R := fun z => (Lit.int k z).wf = true) rows (fun row hrow => by
  obtain ⟨d, r, rfl, hd, hr'⟩ := (hr row hrow).cons
  obtain rfl := hr'.nil
  obtain ⟨z, rfl, hz⟩ := ok_int hd
  exact ⟨z, rfl, hz⟩)
 exact ⟨zs, rfl, hz, by simpa using hm⟩
theorem ok_keys {n : Nat} {k : IntKind} {d : CD} (h : CD.Ok (.sl (List.replicate n (.int k))) d) : ∃ zs : List (List Int), d = .sl (zs.map fun key => key.map (.int k)) ∧ (∀ key ∈ zs, key.length = n ∧ ∀ z ∈ key, (Lit.int k z).wf = true) ∧ zs.length ≤ maxLen := by
 obtain ⟨rows, rfl, hm, hr⟩ := ok_sl h
 obtain ⟨zs, rfl, hz⟩ := rows_of (f := fun key : List Int => key.map (CD.int k)) (R := fun key => key.length = n ∧ ∀ z ∈ key, (Lit.int k z).wf = true) rows (fun row hrow => by
  obtain ⟨zs, rfl, hl, hzs⟩ := (hr row hrow).ints
  exact ⟨zs, rfl, hl, hzs⟩)
 exact ⟨zs, rfl, hz, by simpa using hm⟩
theorem val_int {H : AH} {k : IntKind} {z : Int} {v : Value} (h : CD.Val H (.int k z) v) : v = .int k z := by cases h; rfl
theorem val_str {H : AH} {s : ByteArray} {v : Value} (h : CD.Val H (.str s) v) : v = .string s := by cases h; rfl
theorem val_len {P : Program} {H : AH} {rows : List (List CD)} {v : Value} {t e : TypeId} (h : CD.Val H (.sl rows) v) (ht : und P t = .slice e) : xlen P t v = some (.int .i64 rows.length) := by
 cases h with
 | nil => simp [xlen, ht]
 | sl _ _ _ _ => simp [xlen, ht]
theorem val_nt {H : AH} {rows : List (List CD)} {v : Value} (h : CD.Val H (.sl rows) v) : notTuple v = true ∧ v.cells = #[v] := by
 cases h <;> exact ⟨rfl, rfl⟩
theorem val_at {P : Program} {H : AH} {rows : List (List CD)} {v : Value} {t e : TypeId} {sz : Nat} (h : CD.Val H (.sl rows) v) (ht : und P t = .slice e) (hs : szt P e = sz) (h0 : 0 < sz) (hl : ∀ row ∈ rows, row.length = sz) {i : Nat} {row : List CD} (hi : rows[i]? = some row) :
  ∃ j b us, v = .slice (some ⟨j, 0, none⟩) rows.length rows.length ∧ hget H j = some b ∧ rows.length * sz ≤ b.cells.length ∧ xindexAddr P t v (.int .i64 (i : Nat)) = some (.pointer (some ⟨j, i * sz, none⟩)) ∧
   us = (b.cells.drop (i * sz)).take sz ∧ us.length = sz ∧ i * sz + sz ≤ b.cells.length ∧ (∀ c, c < sz → b.cells[i * sz + c]? = us[c]?) ∧ ValL H row us := by
 have hil := (List.getElem?_eq_some_iff.1 hi).1
 have hrl := hl row (List.mem_of_getElem? hi)
 cases h with
 | nil => simp at hi
 | @sl sz' j b _ h1 h2 h3 h4 =>
  have hsz : sz' = sz := (h3 row (List.mem_of_getElem? hi)).symm.trans hrl
  subst hsz
  have h7 : (i + 1) * sz' ≤ rows.length * sz' := Nat.mul_le_mul_right _ hil
  rw [Nat.add_mul] at h7
  refine ⟨j, b, (b.cells.drop (i * sz')).take sz', rfl, h1, h2, ?_, rfl, by rw [List.length_take, List.length_drop]; omega, by omega, fun c hc => ?_, ⟨by rw [List.length_take, List.length_drop, hrl]; omega, fun c d u hd hu => ?_⟩⟩
  ·unfold xindexAddr
   simp only [ht, hs]
   rw [if_pos ⟨by omega, by omega, h0⟩]
   simp
  ·rw [List.getElem?_take_of_lt hc, List.getElem?_drop]
  ·have hc : c < sz' := by rw [← hrl]; exact (List.getElem?_eq_some_iff.1 hd).1
   rw [List.getElem?_take_of_lt hc, List.getElem?_drop] at hu
   exact h4 i row c d u hi hd hu
theorem load_at {P : Program} {G : AH} {e : TypeId} {sz i j : Nat} {b : Blk} {us : List Value} (hb : hget G j = some b) (hs : szt P e = sz) (h0 : 0 < sz) (hd : isAggD (und P e) = true) (hu : us = (b.cells.drop (i * sz)).take sz) (hle : i * sz + sz ≤ b.cells.length) :
  xload P e (.pointer (some ⟨j, i * sz, none⟩)) G = some (.agg us.toArray) := by
 unfold xload
 simp only [hb, hd, hs, if_true]
 rw [if_pos ⟨h0, hle⟩, hu]
theorem ValL.cons {H : AH} {d : CD} {ds : List CD} {us : List Value} (h : ValL H (d :: ds) us) : ∃ u r, us = u :: r ∧ CD.Val H d u ∧ ValL H ds r := by
 obtain ⟨h1, h2⟩ := h
 cases us with
 | nil => cases h1
 | cons u r => exact ⟨u, r, rfl, h2 0 d u rfl rfl, by simpa using h1, fun c d u hd hu => h2 (c + 1) d u (by simpa using hd) (by simpa using hu)⟩
theorem ValL.nil {H : AH} {us : List Value} (h : ValL H [] us) : us = [] := List.eq_nil_of_length_eq_zero h.1
theorem ValL.split {H : AH} {a b : List CD} {us : List Value} (h : ValL H (a ++ b) us) : ∃ x y, us = x ++ y ∧ ValL H a x ∧ ValL H b y := by
 obtain ⟨h1, h2⟩ := h
 rw [List.length_append] at h1
 refine ⟨us.take a.length, us.drop a.length, (List.take_append_drop _ _).symm, ⟨by rw [List.length_take]; omega, fun c d u hd hu => ?_⟩, ⟨by rw [List.length_drop]; omega, fun c d u hd hu => ?_⟩⟩
 ·have hc := (List.getElem?_eq_some_iff.1 hd).1
  rw [List.getElem?_take_of_lt hc] at hu
  exact h2 c d u (by rw [List.getElem?_append_left hc]; exact hd) hu
 ·rw [List.getElem?_drop] at hu
  exact h2 (a.length + c) d u (by rw [List.getElem?_append_right (by omega), Nat.add_sub_cancel_left]; exact hd) hu
theorem ValL.ints {H : AH} {k : IntKind} : ∀ {zs : List Int} {us : List Value}, ValL H (zs.map (.int k)) us → us = iv k zs
 | [], us, h => h.nil
 | z :: zs, us, h => by
  obtain ⟨u, r, rfl, hu, hr⟩ := ValL.cons h
  rw [val_int hu, ValL.ints hr]
  rfl
end
section
theorem By.drop {l : List Int} (h : By l) (n : Nat) : By (l.drop n) := fun x hx => h x (List.mem_of_mem_drop hx)
theorem By.take {l : List Int} (h : By l) (n : Nat) : By (l.take n) := fun x hx => h x (List.mem_of_mem_take hx)
end
section
def Same0 (H H' : AH) : Prop := H.length ≤ H'.length ∧ ∀ j, j < H.length → hget H' j = hget H j
theorem Same0.refl (H : AH) : Same0 H H := ⟨Nat.le_refl _, fun _ _ => rfl⟩
theorem Same0.trans {H G K : AH} (h : Same0 H G) (k : Same0 G K) : Same0 H K := ⟨Nat.le_trans h.1 k.1, fun j hj => (k.2 j (Nat.lt_of_lt_of_le hj h.1)).trans (h.2 j hj)⟩
theorem Same0.app (H L : AH) : Same0 H (H ++ L) := ⟨by simp, fun j hj => hget_left hj⟩
theorem Same0.set {H G : AH} (h : Same0 H G) {p : Nat} (hp : H.length ≤ p) (x : Option Blk) : Same0 H (G.set p x) := ⟨by simpa using h.1, fun j hj => (hget_set_ne (by omega)).trans (h.2 j hj)⟩
theorem Same0.fr {H G K : AH} {F F' : List Nat} (h : Same0 H G) (hf : Fr G K F F') (hF : ∀ j ∈ F, H.length ≤ j) : Same0 H K :=
 ⟨Nat.le_trans h.1 hf.len, fun j hj => (hf.out j (Nat.lt_of_lt_of_le hj h.1) (fun hm => by have := hF j hm; omega)).trans (h.2 j hj)⟩
end
section
def inS (S : Nat → Bool) : Value → Bool
  | .pointer (some ⟨i, _, _⟩) => S i
  | .slice (some ⟨i, _, _⟩) _ _ => S i
  | .map (some i) => S i
  | _ => true
def inSp (S : Nat → Bool) : Value → Bool
  | .pointer (some ⟨i, _, _⟩) => S i
  | _ => true
def memS (γ : Nat → Option Nat) (S : Nat → Bool) (op : Op) (α : Fm) : Bool :=
  match op with
  | .load _ x => inS S (α.eval γ x)
  | .convert _ _ x => inS S (α.eval γ x)
  | .slice _ x _ _ _ => inSp S (α.eval γ x)
  | .lookup _ x _ _ => inS S (α.eval γ x)
  | _ => true
theorem xread_same {P : Program} {γ : Nat → Option Nat} {S : Nat → Bool} {op : Op} {α : Fm} {G H : AH} (hs : memS γ S op α = true) (h : ∀ j, S j = true → hget G j = hget H j) : xread P γ op α G = xread P γ op α H := by
  have hl : ∀ t x, inS S x = true → xload P t x G = xload P t x H := fun t x hx => by
    unfold xload
    split
    · rename_i i off
      rw [h i hx]
    · rfl
  have hc : ∀ s d x, inS S x = true → xconv P s d x G = xconv P s d x H := fun s d x hx => by
    unfold xconv
    split
    · rfl
    · rfl
    · rfl
    · rename_i i off len c hd
      rw [h i hx]
    · rfl
  have hsl : ∀ t x lo hi, inSp S x = true → xslice P t x lo hi G = xslice P t x lo hi H := fun t x lo hi hx => by
    unfold xslice
    split
    · rfl
    · rename_i n e i off hu
      rw [h i hx]
    · rfl
    · rfl
    · rfl
    · rfl
  have hlk : ∀ t x i ok, inS S x = true → xlookup P t x i ok G = xlookup P t x i ok H := fun t x i ok hx => by
    unfold xlookup
    split
    · rename_i kt et j hu
      rw [h j hx]
    · rfl
    · rfl
  cases op <;> first | rfl | exact hl _ _ hs | exact hc _ _ _ hs | exact hlk _ _ _ _ hs | skip
  case slice t x lo hi mx =>
    cases mx with
    | none => exact hsl _ _ _ _ hs
    | some _ => rfl
  case makeFunc fn fs cs => cases fn <;> rfl
def effF : Op → Bool
  | .store .. | .alloc .. | .box .. | .buildSlice .. | .makeSlice .. | .makeMap .. | .mapUpdate .. => true
  | .call ⟨.builtin .append, _, _⟩ | .call ⟨.builtin .copy, _, _⟩ => true
  | _ => false
def isCallU : Op → Bool
  | .call ⟨.value (.tmp _), _, _⟩ => true
  | .call ⟨.invoke _ _, _, _⟩ => true
  | _ => false
def isCallH (op : Op) : Bool := isCallF op || isCallU op
def calleeH (P : Program) (γ : Nat → Option Nat) (α : Fm) (op : Op) : Option (FuncId × Array Value) := match calleeOf γ α op with | some c => some c | none => calleeX P γ α op
theorem calleeH_f (P : Program) (γ : Nat → Option Nat) (α : Fm) (f : FuncId) (as : Array Operand) (ts : Array TypeId) : calleeH P γ α (.call ⟨.value (.func f), as, ts⟩) = some (f, as.map (α.eval γ)) := rfl
theorem calleeH_i (P : Program) (γ : Nat → Option Nat) (α : Fm) (r : Operand) (nm : String) (as : Array Operand) (ts : Array TypeId) : calleeH P γ α (.call ⟨.invoke r nm, as, ts⟩) = calleeX P γ α (.call ⟨.invoke r nm, as, ts⟩) := rfl
theorem calleeH_t (P : Program) (γ : Nat → Option Nat) (α : Fm) (t : Tmp) (as : Array Operand) (ts : Array TypeId) : calleeH P γ α (.call ⟨.value (.tmp t), as, ts⟩) = calleeX P γ α (.call ⟨.value (.tmp t), as, ts⟩) := rfl
def chainF (op : Op) : Bool := isCallH op || effF op
def CL (P : Program) (nro n : Nat) (γ : Nat → Option Nat) (ops : Array Oper) (S : Nat → Bool) (Φ : Nat → AH → Prop) (H : AH) (K : Fm → AH → Prop) : List Oper → Nat → Fm → Prop
  | [], s, α => ∀ G, Φ s G → K α G
  | o :: rest, s, α =>
    match wantedA ops n α o with
    | none => False
    | some false => if chainF o.op = true then (∀ G, Φ s G → Φ (s + 1) G) ∧ CL P nro n γ ops S Φ H K rest (s + 1) (α.put o.dst undef) else CL P nro n γ ops S Φ H K rest s (α.put o.dst undef)
    | some true =>
      if isCallH o.op = true then
        ∃ f args, calleeH P γ α o.op = some (f, args) ∧ callable P f = true ∧ ∃ v, (∀ G, Φ s G → AC P nro γ f args G (fun v' G' => v' = v ∧ Φ (s + 1) G')) ∧ CL P nro n γ ops S Φ H K rest (s + 1) (α.put o.dst v)
      else if effF o.op = true then ∃ v, (∀ G, Φ s G → ∃ G', xeff P nro γ o.op α G = some (v, G') ∧ Φ (s + 1) G') ∧ CL P nro n γ ops S Φ H K rest (s + 1) (α.put o.dst v)
      else ∃ v, xread P γ o.op α H = some v ∧ memS γ S o.op α = true ∧ CL P nro n γ ops S Φ H K rest s (α.put o.dst v)
section
variable {P : Program} {nro n base : Nat} {γ : Nat → Option Nat} {m : List Ent} {H : AH} {α : Fm} {a : Act} {w : World} {Q : Exit → Fm → AH → Prop} {ops : Array Oper} {S : Nat → Bool} {Φ : Nat → AH → Prop} {K : Fm → AH → Prop}
def CLc (P : Program) (nro n : Nat) (γ : Nat → Option Nat) (ops : Array Oper) (S : Nat → Bool) (Φ : Nat → AH → Prop) (H : AH) (K : Fm → AH → Prop) (g : Option Bool) (c e : Bool) (op : Op) (r : Option Value) (cal : Option (FuncId × Array Value)) (mm : Bool) (d : Option Tmp) (rest : List Oper) (s : Nat) (α : Fm) : Prop :=
  match g with
  | none => False
  | some false => if (c || e) = true then (∀ G, Φ s G → Φ (s + 1) G) ∧ CL P nro n γ ops S Φ H K rest (s + 1) (α.put d undef) else CL P nro n γ ops S Φ H K rest s (α.put d undef)
  | some true =>
    if c = true then ∃ f args, cal = some (f, args) ∧ callable P f = true ∧ ∃ v, (∀ G, Φ s G → AC P nro γ f args G (fun v' G' => v' = v ∧ Φ (s + 1) G')) ∧ CL P nro n γ ops S Φ H K rest (s + 1) (α.put d v)
    else if e = true then ∃ v, (∀ G, Φ s G → ∃ G', xeff P nro γ op α G = some (v, G') ∧ Φ (s + 1) G') ∧ CL P nro n γ ops S Φ H K rest (s + 1) (α.put d v)
    else ∃ v, r = some v ∧ mm = true ∧ CL P nro n γ ops S Φ H K rest s (α.put d v)
theorem CL_nil (s : Nat) : CL P nro n γ ops S Φ H K [] s α = ∀ G, Φ s G → K α G := rfl
theorem CL_cons (o : Oper) (rest : List Oper) (s : Nat) : CL P nro n γ ops S Φ H K (o :: rest) s α = CLc P nro n γ ops S Φ H K (wantedA ops n α o) (isCallH o.op) (effF o.op) o.op (xread P γ o.op α H) (calleeH P γ α o.op) (memS γ S o.op α) o.dst rest s α := by
  unfold CLc
  rw [CL]
  cases wantedA ops n α o with
  | none => rfl
  | some b =>
    cases b <;> rfl
theorem CLc_val (v : Value) (op : Op) (cal : Option (FuncId × Array Value)) (d : Option Tmp) (rest : List Oper) (s : Nat) : CLc P nro n γ ops S Φ H K (some true) false false op (some v) cal true d rest s α = CL P nro n γ ops S Φ H K rest s (α.put d v) := by
  simp [CLc]
theorem CLc_skip (op : Op) (r : Option Value) (cal : Option (FuncId × Array Value)) (mm : Bool) (d : Option Tmp) (rest : List Oper) (s : Nat) : CLc P nro n γ ops S Φ H K (some false) false false op r cal mm d rest s α = CL P nro n γ ops S Φ H K rest s (α.put d undef) := by
  simp [CLc]
theorem CLc_call {f : FuncId} {args : Array Value} {op : Op} {e : Bool} {r : Option Value} {mm : Bool} {d : Option Tmp} {rest : List Oper} {s : Nat} {v : Value} (h1 : callable P f = true) (h2 : ∀ G, Φ s G → AC P nro γ f args G (fun v' G' => v' = v ∧ Φ (s + 1) G')) (h3 : CL P nro n γ ops S Φ H K rest (s + 1) (α.put d v)) :
    CLc P nro n γ ops S Φ H K (some true) true e op r (some (f, args)) mm d rest s α := ⟨f, args, rfl, h1, v, h2, h3⟩
theorem CLc_eff {op : Op} {r : Option Value} {cal : Option (FuncId × Array Value)} {mm : Bool} {d : Option Tmp} {rest : List Oper} {s : Nat} {v : Value} (h2 : ∀ G, Φ s G → ∃ G', xeff P nro γ op α G = some (v, G') ∧ Φ (s + 1) G') (h3 : CL P nro n γ ops S Φ H K rest (s + 1) (α.put d v)) :
    CLc P nro n γ ops S Φ H K (some true) false true op r cal mm d rest s α := ⟨v, h2, h3⟩
def isCallAt (ops : Array Oper) (i : Nat) : Bool := match ops[i]? with | some o => chainF o.op | none => false
def cntK (ops : Array Oper) : Nat → Nat
  | 0 => 0
  | i + 1 => if isCallAt ops i = true then cntK ops i + 1 else cntK ops i
theorem cntK_mono {ops : Array Oper} {i j : Nat} (h : i ≤ j) : cntK ops i ≤ cntK ops j := by
  induction j with
  | zero => have : i = 0 := by omega
            subst this; exact Nat.le_refl _
  | succ j ih =>
    rcases Nat.eq_or_lt_of_le h with rfl | h
    · exact Nat.le_refl _
    · have := ih (by omega)
      rw [cntK]
      split <;> omega
theorem cntK_lt {ops : Array Oper} {i j : Nat} (h : i < j) (hi : isCallAt ops i = true) : cntK ops i < cntK ops j := by
  have := cntK_mono (ops := ops) (show i + 1 ≤ j by omega)
  rw [cntK, if_pos hi] at this
  omega
theorem cntK_prev {ops : Array Oper} : ∀ {i : Nat}, 0 < cntK ops i → ∃ j, j < i ∧ isCallAt ops j = true ∧ cntK ops j + 1 = cntK ops i
  | 0, h => by simp [cntK] at h
  | i + 1, h => by
    rw [cntK] at h ⊢
    split at h
    · rename_i hc
      rw [if_pos hc]
      exact ⟨i, by omega, hc, rfl⟩
    · rename_i hc
      rw [if_neg hc]
      obtain ⟨j, h1, h2, h3⟩ := cntK_prev h
      exact ⟨j, by omega, h2, h3⟩
def StepK (P : Program) (nro n : Nat) (γ : Nat → Option Nat) (ops : Array Oper) (S : Nat → Bool) (Φ : Nat → AH → Prop) (H : AH) (o : Oper) (s : Nat) (β : Fm) (v : Value) : Prop :=
  (wantedA ops n β o = some false ∧ v = undef ∧ (chainF o.op = true → ∀ G, Φ s G → Φ (s + 1) G)) ∨
  (wantedA ops n β o = some true ∧ isCallH o.op = true ∧ ∃ f args, calleeH P γ β o.op = some (f, args) ∧ callable P f = true ∧ ∀ G, Φ s G → AC P nro γ f args G (fun v' G' => v' = v ∧ Φ (s + 1) G')) ∨
  (wantedA ops n β o = some true ∧ chainF o.op = false ∧ xread P γ o.op β H = some v ∧ memS γ S o.op β = true) ∨
  (wantedA ops n β o = some true ∧ chainF o.op = true ∧ isCallH o.op = false ∧ ∀ G, Φ s G → ∃ G', xeff P nro γ o.op β G = some (v, G') ∧ Φ (s + 1) G')
theorem CL.unroll : ∀ (l : List Oper) (k s : Nat) (α : Fm), (∀ i o, l[i]? = some o → ops[k + i]? = some o) → CL P nro n γ ops S Φ H K l s α →
    ∃ (val : Nat → Value) (fr : Nat → Fm) (st : Nat → Nat), fr 0 = α ∧ st 0 = s ∧ (∀ i o, l[i]? = some o → StepK P nro n γ ops S Φ H o (st i) (fr i) (val i) ∧ fr (i + 1) = (fr i).put o.dst (val i) ∧ st (i + 1) = if chainF o.op = true then st i + 1 else st i) ∧ ∀ G, Φ (st l.length) G → K (fr l.length) G
  | [], k, s, α, hl, h => ⟨fun _ => undef, fun _ => α, fun _ => s, rfl, rfl, fun i o hi => by simp at hi, h⟩
  | o :: rest, k, s, α, hl, h => by
    have ho := hl 0 o rfl
    have hr : ∀ i o', rest[i]? = some o' → ops[k + 1 + i]? = some o' := fun i o' hi => by
      have := hl (i + 1) o' (by simpa using hi)
      rwa [show k + (i + 1) = k + 1 + i by omega] at this
    have go : ∀ (v : Value) (s' : Nat), StepK P nro n γ ops S Φ H o s α v → s' = (if chainF o.op = true then s + 1 else s) → CL P nro n γ ops S Φ H K rest s' (α.put o.dst v) →
        ∃ (val : Nat → Value) (fr : Nat → Fm) (st : Nat → Nat), fr 0 = α ∧ st 0 = s ∧ (∀ i o', (o :: rest)[i]? = some o' → StepK P nro n γ ops S Φ H o' (st i) (fr i) (val i) ∧ fr (i + 1) = (fr i).put o'.dst (val i) ∧ st (i + 1) = if chainF o'.op = true then st i + 1 else st i) ∧ ∀ G, Φ (st (o :: rest).length) G → K (fr (o :: rest).length) G := by
      intro v s' hst hs' hc
      obtain ⟨val, fr, st, h1, h2, h3, h4⟩ := CL.unroll rest (k + 1) s' _ hr hc
      refine ⟨fun i => match i with | 0 => v | i + 1 => val i, fun i => match i with | 0 => α | i + 1 => fr i, fun i => match i with | 0 => s | i + 1 => st i, rfl, rfl, fun i o' hi => ?_, h4⟩
      cases i with
      | zero =>
        simp at hi
        subst hi
        exact ⟨hst, h1, by show st 0 = _; rw [h2, hs']⟩
      | succ i => exact h3 i o' (by simpa using hi)
    unfold CL at h
    cases hw : wantedA ops n α o with
    | none => rw [hw] at h; exact h.elim
    | some b =>
      rw [hw] at h
      cases b with
      | false =>
        cases hc : chainF o.op with
        | true =>
          simp only [hc, if_true] at h
          exact go undef (s + 1) (.inl ⟨hw, rfl, fun _ => h.1⟩) (by simp [hc]) h.2
        | false =>
          simp only [hc, Bool.false_eq_true, if_false] at h
          exact go undef s (.inl ⟨hw, rfl, fun e => by rw [hc] at e; cases e⟩) (by simp [hc]) h
      | true =>
        cases hc : isCallH o.op with
        | true =>
          simp only [hc, if_true] at h
          obtain ⟨f, args, h1, h2, v, h3, h4⟩ := h
          exact go v (s + 1) (.inr (.inl ⟨hw, hc, f, args, h1, h2, h3⟩)) (by simp [chainF, hc]) h4
        | false =>
          cases he : effF o.op with
          | true =>
            simp only [hc, he, Bool.false_eq_true, if_false, if_true] at h
            obtain ⟨v, h1, h2⟩ := h
            exact go v (s + 1) (.inr (.inr (.inr ⟨hw, by simp [chainF, he], hc, h1⟩))) (by simp [chainF, he]) h2
          | false =>
            simp only [hc, he, Bool.false_eq_true, if_false] at h
            obtain ⟨v, h1, h2, h3⟩ := h
            exact go v s (.inr (.inr (.inl ⟨hw, by simp [chainF, hc, he], h1, h2⟩))) (by simp [chainF, hc, he]) h3
def chainB (ops : Array Oper) : Bool :=
  (List.range ops.size).all fun i => match ops[i]? with
    | none => false
    | some o => (o.after.all fun e => !(Region.binds .any e) || decide (e.on < i)) &&
      ((List.range ops.size).all fun j => decide (j = i) || (match dstO ops j with
        | none => true
        | some t => decide (dstO ops i ≠ some t) && (!((o.looksAt ops).contains t) || (decide (j < i) && Region.waitsFor .any ops i j) || (decide (i < j) && Region.waitsFor .any ops j i)))) &&
      (!(chainF o.op) || (List.range i).all fun j => !(isCallAt ops j) || waitsT ops ops.size i j)
def unl (listed : Array Bool) : Nat → Nat
  | 0 => 0
  | k + 1 => unl listed k + if listed.getD k true = false then 1 else 0
theorem unl_same {listed : Array Bool} {i : Nat} : ∀ {k : Nat}, k ≤ i → unl (listed.setIfInBounds i true) k = unl listed k
  | 0, _ => rfl
  | k + 1, h => by
    have := unl_same (listed := listed) (i := i) (k := k) (by omega)
    simp only [unl]
    rw [this, getD_set_ne true (by omega)]
theorem unl_set {listed : Array Bool} {i : Nat} (hl : i < listed.size) (hi : listed.getD i true = false) : ∀ {k : Nat}, i < k → unl (listed.setIfInBounds i true) k + 1 = unl listed k
  | 0, h => by omega
  | k + 1, h => by
    simp only [unl]
    by_cases e : i = k
    · subst e
      rw [unl_same (k := i) (Nat.le_refl _), hi]
      have : (listed.setIfInBounds i true).getD i true = true := by simp [hl]
      rw [this]; simp
    · rw [getD_set_ne true e]
      have h2 := unl_set (listed := listed) hl hi (k := k) (by omega)
      omega
theorem unl_zero {listed : Array Bool} : ∀ {k : Nat}, unl listed k = 0 → ∀ i, i < k → listed.getD i true = true
  | 0, _, i, hi => by omega
  | k + 1, h, i, hi => by
    rw [unl] at h
    by_cases e : i = k
    · subst e
      cases hq : listed.getD i true with
      | true => rfl
      | false => rw [hq] at h; simp at h
    · exact unl_zero (listed := listed) (k := k) (by omega) i (by omega)
theorem unl_all (k n : Nat) (h : k ≤ n) : unl (Array.replicate n false) k = k := by
  induction k with
  | zero => rfl
  | succ k ih =>
    rw [unl, ih (by omega)]
    have : (Array.replicate n false).getD k true = false := by simp [show k < n by omega]
    rw [this]; simp
theorem getD_tf {l : Array Bool} {i : Nat} (h : i < l.size) : l.getD i true = l.getD i false := by simp [h]
theorem rep_getD (n i : Nat) : (Array.replicate n false).getD i false = false := by
  rw [Array.getD_eq_getD_getElem?, Array.getElem?_replicate]
  split <;> rfl
structure KInv (P : Program) (nro n base : Nat) (γ : Nat → Option Nat) (ops : Array Oper) (Φ : Nat → AH → Prop) (m0 : List Ent) (w0 : World) (α : Fm) (val : Nat → Value) (listed : Array Bool) (a : Act) (w : World) (m : List Ent) (G : AH) (α' : Fm) (s : Nat) : Prop where
  pre : m0 <+: m
  rel : Rel nro base γ m G w
  fr : FR n m α' a
  below : Below base w0 w
  phi : Φ s G
  stage : ∀ i, isCallAt ops i = true → (listed.getD i false = true ↔ cntK ops i < s)
  got : ∀ i t, listed.getD i false = true → dstO ops i = some t → α' t = val i
  old : ∀ t, (∀ i, listed.getD i false = true → dstO ops i ≠ some t) → α' t = α t
  sle : s ≤ cntK ops ops.size
theorem calleeH_ev {o : Oper} {f : FuncId} {args : Array Value} {a : Act} {w : World} (ev : ∀ x ∈ o.op.operands, V m (α.eval γ x) (a.eval x)) (h : calleeH P γ α o.op = some (f, args)) :
    ∃ args' : Array Value, args'.size = args.size ∧ (∀ (i : Nat) (x : Value), args[i]? = some x → ∃ y, args'[i]? = some y ∧ V m x y) ∧
      (callable P f = true → bodied P f = true → (execOp a.eval o).run P w = .ok (.enter f args') w) ∧
      (∀ v, (callFunc f args').run P w = .ok (.value v) w → (execOp a.eval o).run P w = .ok (.value v) w) := by
  unfold calleeH at h
  cases hc : calleeOf γ α o.op with
  | none => rw [hc] at h; exact calleeX_ev ev h
  | some c =>
    rw [hc] at h
    cases h
    obtain ⟨xs, ts, hop, rfl⟩ := callee_ops hc
    have hxs : ∀ x ∈ xs, x ∈ o.op.operands := fun x hx => by
      rw [hop]
      simp only [Op.operands, Call.operands]
      exact Array.mem_append.2 (.inr hx)
    refine ⟨xs.map a.eval, by simp, fun k x hx => ?_, fun hcal hbd => call_run hop hcal hbd w, fun v hr => call_runV hop hr⟩
    rw [Array.getElem?_map] at hx ⊢
    cases hq : xs[k]? with
    | none => rw [hq] at hx; cases hx
    | some q =>
      rw [hq] at hx
      cases hx
      exact ⟨_, rfl, ev q (hxs q (by obtain ⟨hk, he⟩ := Array.getElem?_eq_some_iff.1 hq; rw [← he]; exact Array.getElem_mem hk))⟩
theorem chain_run {l : List Oper} (hl : l.toArray = ops) (hok : okL n γ l = true) (hB : chainB ops = true) (hS : ∀ s G, Φ s G → ∀ j, S j = true → hget G j = hget H j) {val : Nat → Value} {fr : Nat → Fm} {st : Nat → Nat} (hf0 : fr 0 = α) (hst0 : st 0 = 0)
    (hstep : ∀ i o, l[i]? = some o → StepK P nro n γ ops S Φ H o (st i) (fr i) (val i) ∧ fr (i + 1) = (fr i).put o.dst (val i) ∧ st (i + 1) = if chainF o.op = true then st i + 1 else st i)
    (hK : ∀ G, Φ (st l.length) G → Q .normal (fr l.length) G) {w0 : World} {m0 : List Ent} : ∀ (f : Nat) (listed : Array Bool) (a : Act) (w : World) (m : List Ent) (G : AH) (α' : Fm) (s : Nat),
    unl listed ops.size = f → listed.size = ops.size → Closed ops listed → KInv P nro n base γ ops Φ m0 w0 α val listed a w m G α' s → wpAny P .any ops (Con nro n γ m0 base w0 Q) f listed a w := by
  have hN : ops.size = l.length := by rw [← hl]; simp
  have hlo : ∀ (i : Nat) (o : Oper), ops[i]? = some o → l[i]? = some o := fun i o h => by subst hl; rw [List.getElem?_toArray] at h; exact h
  have hB1 : ∀ (i : Nat) (o : Oper), ops[i]? = some o → (∀ e ∈ o.after, Region.binds .any e = true → e.on < i) ∧ (∀ j t, j ≠ i → dstO ops j = some t → dstO ops i ≠ some t ∧ (t ∈ o.looksAt ops → (j < i ∧ Region.waitsFor .any ops i j = true) ∨ (i < j ∧ Region.waitsFor .any ops j i = true))) ∧ (chainF o.op = true → ∀ j, j < i → isCallAt ops j = true → waitsT ops ops.size i j = true) := by
    intro i o ho
    have hi : i < ops.size := (Array.getElem?_eq_some_iff.1 ho).1
    unfold chainB at hB
    have h1 := List.all_eq_true.1 hB i (by simpa using hi)
    rw [ho] at h1
    simp only [Bool.and_eq_true] at h1
    obtain ⟨⟨h1, h2⟩, h3⟩ := h1
    refine ⟨fun e he hb => ?_, fun j t hj hd => ?_, fun hc j hj hcj => ?_⟩
    · have := (Array.all_eq_true_iff_forall_mem.1 h1) e he
      simpa [hb] using this
    · have hjl : j < ops.size := by
        unfold dstO at hd
        cases hq : ops[j]? with
        | none => rw [hq] at hd; cases hd
        | some _ => exact (Array.getElem?_eq_some_iff.1 hq).1
      have := List.all_eq_true.1 h2 j (by simpa using hjl)
      rw [hd] at this
      simp only [Bool.or_eq_true, decide_eq_true_eq, Bool.and_eq_true, Bool.not_eq_true'] at this
      rcases this with h | ⟨h4, h5⟩
      · exact absurd h hj
      · refine ⟨h4, fun ht => ?_⟩
        rcases h5 with (h5 | h5) | h5
        · have : (o.looksAt ops).contains t = true := by simpa using ht
          rw [this] at h5; cases h5
        · exact .inl h5
        · exact .inr h5
    · rw [hc] at h3
      simp only [Bool.not_true, Bool.false_or] at h3
      have := List.all_eq_true.1 h3 j (by simpa using hj)
      simpa [hcj] using this
  have huniq : ∀ i j t, i < ops.size → dstO ops i = some t → dstO ops j = some t → i = j := by
    intro i j t hi h1 h2
    rcases Classical.em (j = i) with e | e
    · exact e.symm
    · exact absurd h1 ((hB1 i _ (Array.getElem?_eq_getElem hi)).2.1 j t e h2).1
  have dlt : ∀ {j t}, dstO ops j = some t → j < ops.size := fun {j t} hd => by
    unfold dstO at hd
    cases hq : ops[j]? with
    | none => rw [hq] at hd; cases hd
    | some _ => exact (Array.getElem?_eq_some_iff.1 hq).1
  have hcall : ∀ (i : Nat) (o : Oper), ops[i]? = some o → isCallAt ops i = chainF o.op := fun i o ho => by simp [isCallAt, ho]
  have hst : ∀ i, i ≤ ops.size → st i = cntK ops i := by
    intro i
    induction i with
    | zero => intro _; rw [hst0]; rfl
    | succ i ih =>
      intro hi
      have ho := Array.getElem?_eq_getElem (show i < ops.size by omega)
      rw [(hstep i _ (hlo i _ ho)).2.2, cntK, hcall i _ ho, ih (by omega)]
  have hfr : ∀ i, i ≤ ops.size → ∀ t, (∀ j, j < i → dstO ops j = some t → fr i t = val j) ∧ ((∀ j, j < i → dstO ops j ≠ some t) → fr i t = α t) := by
    intro i
    induction i with
    | zero => intro _ t; exact ⟨fun j hj => by omega, fun _ => by rw [hf0]⟩
    | succ i ih =>
      intro hi t
      have ho := Array.getElem?_eq_getElem (show i < ops.size by omega)
      have hd : dstO ops i = (ops[i]'(by omega)).dst := by simp [dstO, ho]
      rw [(hstep i _ (hlo i _ ho)).2.1, ← hd]
      obtain ⟨h1, h2⟩ := ih (by omega) t
      refine ⟨fun j hj hdj => ?_, fun hno => ?_⟩
      · by_cases e : j = i
        · subst e; rw [hdj]; simp [Fm.put]
        · have hne : dstO ops i ≠ some t := fun h => e (huniq j i t (dlt hdj) hdj h)
          have : (fr i).put (dstO ops i) (val i) t = fr i t := by
            cases hq : dstO ops i with
            | none => rfl
            | some d => rw [hq] at hne; simp only [Fm.put]; rw [if_neg (fun e => hne (by rw [e]))]
          rw [this]
          exact h1 j (by omega) hdj
      · have hne := hno i (by omega)
        have : (fr i).put (dstO ops i) (val i) t = fr i t := by
          cases hq : dstO ops i with
          | none => rfl
          | some d => rw [hq] at hne; simp only [Fm.put]; rw [if_neg (fun e => hne (by rw [e]))]
        rw [this]
        exact h2 fun j hj => hno j (by omega)
  intro f
  induction f with
  | zero =>
    intro listed a w m G α' s hu hsz hcl hI
    have hall := unl_zero hu
    have hready : Region.ready .any ops listed = [] := by
      rw [List.eq_nil_iff_forall_not_mem]
      intro i hi
      obtain ⟨hun, o, ho, _⟩ := mem_ready.1 hi
      rw [hall i (Array.getElem?_eq_some_iff.1 ho).1] at hun
      cases hun
    have hall' : ∀ i, i < ops.size → listed.getD i false = true := fun i hi => by rw [← getD_tf (by omega)]; exact hall i hi
    have hs : s = st l.length := by
      rw [← hN, hst _ (Nat.le_refl _)]
      have h1 := hI.sle
      rcases Nat.eq_zero_or_pos (cntK ops ops.size) with h0 | h0
      · omega
      · obtain ⟨j, hj, hcj, hcc⟩ := cntK_prev h0
        have := (hI.stage j hcj).1 (hall' j hj)
        omega
    have hα : ∀ t, α' t = fr l.length t := by
      intro t
      rw [← hN]
      obtain ⟨h1, h2⟩ := hfr ops.size (Nat.le_refl _) t
      by_cases h : ∃ j, j < ops.size ∧ dstO ops j = some t
      · obtain ⟨j, hj, hd⟩ := h
        rw [hI.got j t (hall' j hj) hd, h1 j hj hd]
      · rw [hI.old t (fun i _ hd => h ⟨i, dlt hd, hd⟩), h2 (fun j hj hd => h ⟨j, hj, hd⟩)]
    have hαe : α' = fr l.length := funext hα
    refine ⟨hready, m, α', G, hI.pre, hI.rel, hI.fr, hI.below, ?_⟩
    rw [hαe]
    exact hK G (hs ▸ hI.phi)
  | succ f ih =>
    intro listed a w m G α' s hu hsz hcl hI
    refine ⟨fun h0 => ?_, fun i hi => ?_⟩
    · exfalso
      obtain ⟨i, hi, hmin⟩ := least (p := fun i => i < ops.size ∧ listed.getD i true = false) (by
        refine Classical.byContradiction fun hno => ?_
        have : ∀ k, k ≤ ops.size → unl listed k = 0 := by
          intro k
          induction k with
          | zero => intro _; rfl
          | succ k ih =>
            intro hk
            rw [unl, ih (by omega)]
            cases hq : listed.getD k true with
            | true => simp
            | false => exact absurd ⟨k, by omega, hq⟩ hno
        have := this ops.size (Nat.le_refl _)
        omega)
      have ho := Array.getElem?_eq_getElem hi.1
      have : i ∈ Region.ready .any ops listed := mem_ready.2 ⟨hi.2, _, ho, fun e he hb => by
        have h1 := (hB1 i _ ho).1 e he hb
        have h2 := hmin e.on h1
        rw [← getD_tf (by omega)]
        cases hq : listed.getD e.on true with
        | true => rfl
        | false => exact absurd ⟨by omega, hq⟩ h2⟩
      rw [h0] at this
      cases this
    · obtain ⟨hun, o, ho, hall⟩ := mem_ready.1 hi
      have hil : i < ops.size := (Array.getElem?_eq_some_iff.1 ho).1
      have hunf : listed.getD i false = false := by rw [← getD_tf (by omega)]; exact hun
      obtain ⟨hb1, hb2, hb3⟩ := hB1 i o ho
      have hli := hlo i o ho
      obtain ⟨hst1, _, _⟩ := hstep i o hli
      have hd : dstO ops i = o.dst := by simp [dstO, ho]
      have hmemo := List.mem_of_getElem? hli
      have hoko : o.op.operands.all (okOpd n γ) = true := List.all_eq_true.1 hok o hmemo
      have hlook : ∀ t, t ∈ o.looksAt ops → α' t = fr i t := by
        intro t ht
        obtain ⟨h1, h2⟩ := hfr i (by omega) t
        by_cases hex : ∃ j, dstO ops j = some t
        · obtain ⟨j, hdj⟩ := hex
          by_cases hji : j = i
          · subst hji
            rw [hI.old t (fun i' hl' hd' => ?_), h2 (fun j' hj' hd' => ?_)]
            · have := huniq _ _ t (dlt hd') hd' hdj
              omega
            · have := huniq _ _ t (dlt hd') hd' hdj
              subst this
              rw [hunf] at hl'; cases hl'
          · rcases (hb2 j t hji hdj).2 ht with ⟨hlt, hw⟩ | ⟨hlt, hw⟩
            · obtain ⟨oj, hoj, e, he, hbe, hon⟩ := Region.waitsFor_spec hw
              rw [ho] at hoj
              cases hoj
              have hlj : listed.getD j false = true := by rw [← hon]; exact hall e he hbe
              rw [hI.got j t hlj hdj, h1 j hlt hdj]
            · have hlj : listed.getD j false = false := by
                cases hq : listed.getD j false with
                | false => rfl
                | true =>
                  obtain ⟨oj, hoj, e, he, hbe, hon⟩ := Region.waitsFor_spec hw
                  have hjs : j < listed.size := getD_lt hq
                  have := hcl j oj hoj (by rw [getD_tf hjs]; exact hq) e he hbe
                  rw [hon, hunf] at this; cases this
              rw [hI.old t (fun i' hl' hd' => ?_), h2 (fun j' hj' hd' => ?_)]
              · have := huniq _ _ t (dlt hd') hd' hdj
                omega
              · have := huniq _ _ t (dlt hd') hd' hdj
                subst this
                rw [hlj] at hl'; cases hl'
        · rw [hI.old t (fun i' _ hd' => hex ⟨i', hd'⟩), h2 (fun j' _ hd' => hex ⟨j', hd'⟩)]
      have hmem : ∀ t, Operand.tmp t ∈ o.op.operands → t ∈ o.looksAt ops := fun t ht => List.mem_append_left _ (List.mem_filterMap.2 ⟨.tmp t, by simpa using ht, rfl⟩)
      have hg : ∀ d ∈ guardT ops o, d < n → V m (fr i d) (a.tmps.getD d undef) := fun d hdm hn => by
        rw [← hlook d (guard_looks hdm)]; exact hI.fr.val d hn
      have hev : ∀ x ∈ o.op.operands, V m ((fr i).eval γ x) (a.eval x) := fun x hx => eval_ev hI.rel (by
          obtain ⟨q, hq, rfl⟩ := Array.mem_iff_getElem.1 hx
          exact (Array.all_eq_true.1 hoko) q hq) fun t ht htn => by
        subst ht
        rw [← hlook t (hmem t hx)]; exact hI.fr.val t htn
      have hcl' := hcl.put ho hall
      have hu' : unl (listed.setIfInBounds i true) ops.size = f := by
        have := unl_set (listed := listed) (by omega) hun hil
        omega
      have lget : ∀ x, (listed.setIfInBounds i true).getD x false = true → x = i ∨ listed.getD x false = true := by
        intro x hx
        by_cases e : i = x
        · exact .inl e.symm
        · rw [getD_set_ne false e] at hx; exact .inr hx
      have lself : (listed.setIfInBounds i true).getD i false = true := getD_set_self (by omega)
      have lmono : ∀ x, listed.getD x false = true → (listed.setIfInBounds i true).getD x false = true := fun x hx => getD_set_true hx
      have hstage : ∀ s', (chainF o.op = true → s' = cntK ops i + 1) → (chainF o.op = false → s' = s) → (chainF o.op = true → s = cntK ops i) →
          ∀ j, isCallAt ops j = true → ((listed.setIfInBounds i true).getD j false = true ↔ cntK ops j < s') := by
        intro s' h1 h2 h3 j hj
        have hjl : j < ops.size := by
          unfold isCallAt at hj
          cases hq : ops[j]? with
          | none => rw [hq] at hj; cases hj
          | some _ => exact (Array.getElem?_eq_some_iff.1 hq).1
        cases hc : chainF o.op with
        | false =>
          rw [h2 hc]
          have hne : i ≠ j := fun e => by subst e; rw [hcall i o ho, hc] at hj; cases hj
          rw [getD_set_ne false hne]
          exact hI.stage j hj
        | true =>
          rw [h1 hc]
          by_cases e : i = j
          · subst e
            exact ⟨fun _ => by omega, fun _ => lself⟩
          · rw [getD_set_ne false e, hI.stage j hj, h3 hc]
            have hci : isCallAt ops i = true := by rw [hcall i o ho, hc]
            constructor
            · intro h; omega
            · intro h
              rcases Nat.lt_or_gt_of_ne e with hij | hij
              · have := cntK_lt hij hci; omega
              · exact cntK_lt hij hj
      have hseq : chainF o.op = true → s = cntK ops i := by
        intro hc
        have hci : isCallAt ops i = true := by rw [hcall i o ho, hc]
        have h1 : ¬ cntK ops i < s := fun h => by
          have := (hI.stage i hci).2 h
          rw [hunf] at this; cases this
        rcases Nat.eq_zero_or_pos (cntK ops i) with h0 | h0
        · omega
        · obtain ⟨j, hj, hcj, hcc⟩ := cntK_prev h0
          have hwt := hb3 hc j hj hcj
          have hlj : listed.getD j false = true := by
            cases hq : listed.getD j true with
            | true => rw [← getD_tf (by omega)]; exact hq
            | false =>
              obtain ⟨o', ho', e, he, hbe, hon⟩ := waitsT_spec hcl hq _ _ hwt
              rw [ho] at ho'
              cases ho'
              rw [hall e he hbe] at hon; cases hon
          have := (hI.stage j hcj).1 hlj
          omega
      have fin : ∀ (v' : Value) (w' : World) (m' : List Ent) (G' : AH) (s' : Nat), m <+: m' → Rel nro base γ m' G' w' → V m' (val i) v' → Below base w w' → Φ s' G' → (chainF o.op = true → s' = cntK ops i + 1) → (chainF o.op = false → s' = s) →
          KInv P nro n base γ ops Φ m0 w0 α val (listed.setIfInBounds i true) (a.put o.dst v') w' m' G' (α'.put o.dst (val i)) s' := by
        intro v' w' m' G' s' hm hR hV hb hΦ hs1 hs2
        refine ⟨hI.pre.trans hm, hR, (hI.fr.mono hm).put hV, hI.below.trans hb, hΦ, hstage s' hs1 hs2 hseq, fun j t hlj hdj => ?_, fun t hno => ?_, ?_⟩
        · by_cases e : j = i
          · subst e
            rw [hd] at hdj
            rw [hdj]; simp [Fm.put]
          · have hne : o.dst ≠ some t := fun h => e (huniq j i t (dlt hdj) hdj (hd.trans h))
            have hlj' : listed.getD j false = true := by rcases lget j hlj with h | h; exact absurd h e; exact h
            have : α'.put o.dst (val i) t = α' t := by
              cases hq : o.dst with
              | none => rfl
              | some d => rw [hq] at hne; simp only [Fm.put]; rw [if_neg (fun e => hne (by rw [e]))]
            rw [this]
            exact hI.got j t hlj' hdj
        · have hne : o.dst ≠ some t := by rw [← hd]; exact hno i lself
          have : α'.put o.dst (val i) t = α' t := by
            cases hq : o.dst with
            | none => rfl
            | some d => rw [hq] at hne; simp only [Fm.put]; rw [if_neg (fun e => hne (by rw [e]))]
          rw [this]
          exact hI.old t fun j hj => hno j (lmono j hj)
        · cases hc : chainF o.op with
          | false => rw [hs2 hc]; exact hI.sle
          | true =>
            rw [hs1 hc]
            have := cntK_lt hil (by rw [hcall i o ho, hc])
            omega
      have hsti := hst i (by omega)
      unfold wpOp
      simp only [ho]
      rcases hst1 with ⟨hw, hv, hp⟩ | ⟨hw, hcf, f', args, hca, hcal, hac⟩ | ⟨hw, hcf, hx, hms⟩ | ⟨hw, hcf, hncf, hx⟩
      · rw [wantedA_ev hI.fr.size hg hw]
        simp only [Bool.false_eq_true, if_false]
        cases hc : chainF o.op with
        | false => exact ih _ _ _ _ _ _ _ hu' (by simpa using hsz) hcl' (fin undef w m G s List.prefix_rfl hI.rel (by rw [hv]; exact plainV_mk plainV_undef) (.refl _ _) hI.phi (fun h => by rw [hc] at h; cases h) (fun _ => rfl))
        | true =>
          have hss := hseq hc
          refine ih _ _ _ _ _ _ _ hu' (by simpa using hsz) hcl' (fin undef w m G (s + 1) List.prefix_rfl hI.rel (by rw [hv]; exact plainV_mk plainV_undef) (.refl _ _) ?_ (fun _ => by omega) (fun h => by rw [hc] at h; cases h))
          have := hp hc G (by rw [hsti, ← hss]; exact hI.phi)
          rwa [hsti, ← hss] at this
      · rw [wantedA_ev hI.fr.size hg hw]
        simp only [if_true]
        refine .inl ?_
        have hcf2 : chainF o.op = true := by simp [chainF, hcf]
        have hss := hseq hcf2
        obtain ⟨args', hsz', hargs, run1, run2⟩ := calleeH_ev (P := P) (w := w) hev hca
        unfold Oper.wp
        have hphi : Φ (st i) G := by rw [hsti, ← hss]; exact hI.phi
        rcases hac G hphi m base w args' hI.rel hsz' hargs with ⟨hbd, hac'⟩ | ⟨v0, hrun, m', v, v', H', he, hm, hv, hR', hb, hx, hx2⟩
        · rw [run1 hcal hbd, Oper.upon_enter]
          refine hac'.mono ?_
          rintro e w' ⟨m', v, v', H', rfl, hm, hv, hR', hb, hx, hx2⟩
          subst hx
          exact ih _ _ _ _ _ _ _ hu' (by simpa using hsz) hcl' (fin v' w' m' H' (st i + 1) hm hR' hv hb hx2 (fun _ => by omega) (fun h => by rw [hcf2] at h; cases h))
        · cases he
          subst hx
          rw [run2 _ hrun, Oper.upon_value]
          exact ih _ _ _ _ _ _ _ hu' (by simpa using hsz) hcl' (fin v0 w m' H' (st i + 1) hm hR' hv hb hx2 (fun _ => by omega) (fun h => by rw [hcf2] at h; cases h))
      · rw [wantedA_ev hI.fr.size hg hw]
        simp only [if_true]
        refine .inl ?_
        rw [← xread_same hms (hS s G hI.phi)] at hx
        obtain ⟨v', h1, h2⟩ := xread_ev hI.rel hev hx
        unfold Oper.wp
        rw [h2 w (.refl _ _)]
        exact ih _ _ _ _ _ _ _ hu' (by simpa using hsz) hcl' (fin v' w m G s List.prefix_rfl hI.rel h1 (.refl _ _) hI.phi (fun h => by rw [hcf] at h; cases h) (fun _ => rfl))
      · rw [wantedA_ev hI.fr.size hg hw]
        simp only [if_true]
        refine .inl ?_
        have hss := hseq hcf
        have hphi : Φ (st i) G := by rw [hsti, ← hss]; exact hI.phi
        obtain ⟨G', hxe, hpe⟩ := hx G hphi
        obtain ⟨m', x, w', v', h1, h2, h3, h4, h5, h6⟩ := xeff_ev hI.rel hev hxe
        have hnext := ih _ (a.put o.dst v') w' m' G' (α'.put o.dst (val i)) (st i + 1) hu' (by simpa using hsz) hcl' (fin v' w' m' G' (st i + 1) h3 h5 h4 h6 hpe (fun _ => by omega) (fun h => by rw [hcf] at h; cases h))
        unfold Oper.wp
        rw [h1]
        rcases h2 with rfl | ⟨rfl, rfl⟩
        · exact hnext
        · exact hnext
theorem aw_chain {id : Nat} {l : List Oper} (S : Nat → Bool) (Φ : Nat → AH → Prop) (hm : P.follows .mixedOrders = true) (hB : chainB l.toArray = true) (hok : okL n γ l = true) (hS : ∀ s G, Φ s G → ∀ j, S j = true → hget G j = hget H j) (h0 : Φ 0 H)
    (h : ∀ K : Fm → AH → Prop, (∀ α' H', Q .normal α' H' → K α' H') → CL P nro n γ l.toArray S Φ H K l 0 α) : AW P nro n γ (.region id l.toArray true) Q α H := by
  intro m base w a hR hF
  refine wp_region_any hm ?_
  obtain ⟨val, fr, st, hf0, hs0, hstep, hK⟩ := CL.unroll l 0 0 α (fun i o ho => by simpa using ho) (h (Q .normal) fun _ _ h => h)
  have := chain_run (P := P) (Q := Q) (S := S) (ops := l.toArray) (n := n) (base := base) rfl hok hB hS hf0 hs0 hstep hK (w0 := w) (m0 := m) l.length (Array.replicate l.length false) a { w with drawn := w.drawn + 1 } m H α 0
    (by simpa using unl_all l.length l.length (Nat.le_refl _)) (by simp) (fun k o hk hl => by simp [show k < l.length by have := (Array.getElem?_eq_some_iff.1 hk).1; simpa using this] at hl)
    ⟨List.prefix_rfl, hR.drewN 1, hF, Below.drew (.refl base w), h0, fun i hi => by rw [rep_getD]; simp, fun i t hl => (by rw [rep_getD] at hl; cases hl), fun t _ => rfl, Nat.zero_le _⟩
  simpa using this
end
end
section
section
variable {P : Program} {nro n base base' : Nat} {γ : Nat → Option Nat} {m m' : List Ent} {H H' : AH} {w w' : World} {Q : Value → AH → Prop}
theorem Rel.thaw (h1 : Rel nro base γ m H w') (h2 : Rel H.length base' γ m' H' w') (hm : m <+: m') (hl : ∀ j, j < H.length → hget H' j = hget H j) (hle : H.length ≤ H'.length) (hb : ∀ (i : Nat) (e : Ent), m[i]? = some e → e.b < base') (hbb : base ≤ base') : Rel nro base γ m' H' w' := by
 have hml := h1.len
 have old : ∀ (i : Nat) (e : Ent), i < H.length → m'[i]? = some e → m[i]? = some e := fun i e hi he => by
  obtain ⟨r, rfl⟩ := hm
  rwa [List.getElem?_append_left (by omega)] at he
 have oldH : ∀ (i : Nat) (k : Blk), i < H.length → H'[i]? = some (some k) → H[i]? = some (some k) := fun i k hi hk => by
  have h3 := hl i hi
  unfold hget at h3
  rw [hk, List.getElem?_eq_getElem hi] at h3
  simp at h3
  rw [List.getElem?_eq_getElem hi, ← h3]
 refine ⟨h2.len, Nat.le_trans h1.le hle, h1.base_le, h2.inb, fun i e hi he => h1.ro i e hi (old i e (Nat.lt_of_lt_of_le hi h1.le) he), fun i e hi he => ?_, h2.maps, fun i k e hk hn he => ?_, fun i j ki kj ei ej hi hj hij hki hkj hei hej => ?_, h2.glob⟩
 ·rcases Nat.lt_or_ge i H.length with h | h
  ·exact h1.own i e hi (old i e h he)
  ·have := h2.own i e h he
   exact ⟨by omega, this.2⟩
 ·rcases Nat.lt_or_ge i H.length with h | h
  ·obtain ⟨cs, fr, a, b, c, d, f⟩ := h1.cells i k e (oldH i k h hk) hn (old i e h he)
   refine ⟨cs, fr, a, b, c, d, fun j x hx => ?_⟩
   obtain ⟨y, hy, hv⟩ := f j x hx
   exact ⟨y, hy, hv.mono hm⟩
  ·obtain ⟨cs, fr, a, b, c, d, f⟩ := h2.cells i k e hk hn he
   exact ⟨cs, fr, a, fun _ => b h, c, fun _ => d h, f⟩
 ·rcases Nat.lt_or_ge i H.length with h | h
  ·have e1 := old i ei h hei
   rcases Nat.lt_or_ge j H.length with h' | h'
   ·exact h1.apart i j ki kj ei ej hi hj hij (oldH i ki h hki) (oldH j kj h' hkj) e1 (old j ej h' hej)
   ·have := hb i ei e1
    have := (h2.own j ej h' hej).1
    omega
  ·rcases Nat.lt_or_ge j H.length with h' | h'
   ·have := hb j ej (old j ej h' hej)
    have := (h2.own i ei h hei).1
    omega
   ·exact h2.apart i j ki kj ei ej h h' hij hki hkj hei hej
theorem AC.thaw {f : FuncId} {args : Array Value} (h : AC P H.length γ f args H Q) (hq : ∀ v H', Q v H' → H.length ≤ H'.length ∧ ∀ j, j < H.length → hget H' j = hget H j) : AC P nro γ f args H Q := by
 intro m base w args' hR hsz hva
 refine (h m w.heap.size w args' hR.freeze hsz hva).mono ?_
 rintro e w' ⟨m', v1, v', H', rfl, hm, hv', hR', hb, hQ⟩
 obtain ⟨h1, h2⟩ := hq _ _ hQ
 exact ⟨m', v1, v', H', rfl, hm, hv', (hR.below hb).thaw hR' hm h2 h1 hR.inb hR.base_le, hb.mono hR.base_le, hQ⟩
end
end
section
def behind (i : Nat) : List (List Nat) → List (List Nat)
 | [] => []
 | (j :: l) :: os => if j = i then l :: behind i os else behind i os
 | [] :: os => behind i os
def ordersB (ops : Array Oper) : Nat → Array Bool → List (List Nat) → Bool
 | 0, listed, os => (Region.ready .any ops listed).isEmpty && os.contains []
 | f + 1, listed, os => !(Region.ready .any ops listed).isEmpty && (Region.ready .any ops listed).all fun i => ordersB ops f (listed.setIfInBounds i true) (behind i os)
theorem behind_mem {i : Nat} {o : List Nat} : ∀ {os : List (List Nat)}, o ∈ behind i os → (i :: o) ∈ os
 | [] :: os, h => by simp only [behind] at h; exact List.mem_cons_of_mem _ (behind_mem h)
 | (j :: l) :: os, h => by
  simp only [behind] at h
  split at h
  ·rename_i e
   subst e
   rcases List.mem_cons.1 h with rfl | h
   ·exact List.mem_cons_self
   ·exact List.mem_cons_of_mem _ (behind_mem h)
  ·exact List.mem_cons_of_mem _ (behind_mem h)
section
variable {P : Program} {nro n base : Nat} {γ : Nat → Option Nat} {m : List Ent} {H : AH} {α : Fm} {a : Act} {w : World} {Q : Exit → Fm → AH → Prop} {ops : Array Oper}
theorem orders_ne {ops : Array Oper} : ∀ (f : Nat) (listed : Array Bool) (os : List (List Nat)), ordersB ops f listed os = true → ∃ o, o ∈ os
 | 0, listed, os, h => by simp only [ordersB, Bool.and_eq_true, List.contains_iff_mem] at h; exact ⟨_, h.2⟩
 | f + 1, listed, os, h => by
  simp only [ordersB, Bool.and_eq_true] at h
  cases hr : Region.ready .any ops listed with
  | nil => rw [hr] at h; simp at h
  | cons i rs =>
   rw [hr] at h
   simp only [List.all_cons, Bool.and_eq_true] at h
   obtain ⟨o, ho⟩ := orders_ne f _ _ h.2.1
   exact ⟨_, behind_mem ho⟩
end
end
section
def headsO : List (List Nat) → List Nat
 | [] => []
 | (j :: _) :: os => if (headsO os).contains j then headsO os else j :: headsO os
 | [] :: os => headsO os
theorem headsO_mem {i : Nat} {o : List Nat} : ∀ {os : List (List Nat)}, (i :: o) ∈ os → i ∈ headsO os
 | [] :: os, h => by
  rcases List.mem_cons.1 h with h | h
  ·cases h
  ·exact headsO_mem (os := os) h
 | (j :: l) :: os, h => by
  unfold headsO
  rcases List.mem_cons.1 h with h | h
  ·cases h
   split
   ·rename_i hc; simpa using hc
   ·simp
  ·have := headsO_mem (os := os) h
   split
   ·exact this
   ·exact List.mem_cons_of_mem _ this
def XLk (P : Program) (nro : Nat) (γ : Nat → Option Nat) (r : St) (d : Option Tmp) (α : Fm) (H : AH) (k : Fm → AH → Prop) : Prop :=
 match r with
 | .no => False
 | .val v H' => k (α.put d v) H'
 | .call f args => callable P f = true ∧ AC P nro γ f args H fun v H' => k (α.put d v) H'
def XO (P : Program) (nro n : Nat) (γ : Nat → Option Nat) (ops : Array Oper) (K : Fm → AH → Prop) (l : List Oper) : Nat → List (List Nat) → Fm → AH → Prop
 | 0, _, α, H => K α H
 | f + 1, os, α, H => ∀ i ∈ headsO os, match l[i]? with
  | none => False
  | some o => XLk P nro γ (step1 P nro n γ ops o α H) o.dst α H (XO P nro n γ ops K l f (behind i os))
section
variable {P : Program} {nro n base : Nat} {γ : Nat → Option Nat} {m : List Ent} {H : AH} {α : Fm} {a : Act} {w : World} {Q : Exit → Fm → AH → Prop} {ops : Array Oper}
theorem XO_z {K : Fm → AH → Prop} {l : List Oper} {os : List (List Nat)} : XO P nro n γ ops K l 0 os α H = K α H := rfl
theorem XO_s {K : Fm → AH → Prop} {l : List Oper} {f : Nat} {os : List (List Nat)} : XO P nro n γ ops K l (f + 1) os α H = ∀ i ∈ headsO os, match l[i]? with
  | none => False
  | some o => XLk P nro γ (step1 P nro n γ ops o α H) o.dst α H (XO P nro n γ ops K l f (behind i os)) := rfl
theorem XLk_val {v : Value} {H' : AH} {d : Option Tmp} {k : Fm → AH → Prop} : XLk P nro γ (.val v H') d α H k = k (α.put d v) H' := rfl
theorem XLk_call {f : FuncId} {args : Array Value} {d : Option Tmp} {k : Fm → AH → Prop} : XLk P nro γ (.call f args) d α H k = (callable P f = true ∧ AC P nro γ f args H fun v H' => k (α.put d v) H') := rfl
end
end
section
def pureTreeB (ops : Array Oper) (F : Nat) (os : List (List Nat)) : List Nat → Array Bool → Bool
 | [], listed => ordersB ops F listed os
 | i :: is, listed => (Region.ready .any ops listed).contains i && Region.free .any ops listed i && (match ops[i]? with | some o => pureOp o.op | none => false) && pureTreeB ops F os is (listed.setIfInBounds i true)
def ptreeB (ops : Array Oper) (ps : List Nat) (F : Nat) (os : List (List Nat)) : Bool :=
 Region.noSelect ops && decide (ps.length + F = ops.size) && pureTreeB ops F os ps (Array.replicate ops.size false)
section
variable {P : Program} {nro n base : Nat} {γ : Nat → Option Nat} {m : List Ent} {H : AH} {α : Fm} {a : Act} {w : World} {Q : Exit → Fm → AH → Prop} {ops : Array Oper}
theorem tree_runG {l : List Oper} (hl : l.toArray = ops) (hok : okL n γ l = true) {K : Fm → AH → Prop} {w0 : World} {m0 : List Ent} {Q' : Exit → Act → World → Prop} (hK : ∀ m α H a w, m0 <+: m → Rel nro base γ m H w → FR n m α a → Below base w0 w → K α H → Q' .normal a w) : ∀ (f : Nat) (listed : Array Bool) (os : List (List Nat)) (α : Fm) (H : AH) (m : List Ent) (w : World) (a : Act),
  ordersB ops f listed os = true → XO P nro n γ ops K l f os α H → m0 <+: m → Rel nro base γ m H w → FR n m α a → Below base w0 w → wpAny P .any ops Q' f listed a w
 | 0, listed, os, α, H, m, w, a, hB, h, hm, hR, hF, hb => by
  simp only [ordersB, Bool.and_eq_true, List.contains_iff_mem, List.isEmpty_iff] at hB
  exact ⟨hB.1, hK m α H a w hm hR hF hb h⟩
 | f + 1, listed, os, α, H, m, w, a, hB, h, hm, hR, hF, hb => by
  simp only [ordersB, Bool.and_eq_true] at hB
  refine ⟨fun h0 => (by rw [h0] at hB; simp at hB), fun i hi => ?_⟩
  have hBi := List.all_eq_true.1 hB.2 i hi
  obtain ⟨_, o, ho, _⟩ := mem_ready.1 hi
  have hli : l[i]? = some o := by rw [← ho, ← hl]; simp
  have hmem := List.mem_of_getElem? hli
  have hoko : o.op.operands.all (okOpd n γ) = true := List.all_eq_true.1 hok o hmem
  obtain ⟨r0, hr0⟩ := orders_ne f _ _ hBi
  have hstep : XLk P nro γ (step1 P nro n γ ops o α H) o.dst α H (XO P nro n γ ops K l f (behind i os)) := by
   have := h i (headsO_mem (behind_mem hr0))
   rw [hli] at this
   exact this
  rw [step1_eq] at hstep
  unfold wpOp
  simp only [ho]
  have fin : ∀ (v : Value) (v' : Value) (m' : List Ent) (H' : AH) (w' : World), m <+: m' → V m' v v' → Rel nro base γ m' H' w' → Below base w w' → XO P nro n γ ops K l f (behind i os) (α.put o.dst v) H' →
    wpAny P .any ops Q' f (listed.setIfInBounds i true) (a.put o.dst v') w' := fun v v' m' H' w' h1 h2 h3 h4 h5 =>
   tree_runG hl hok hK f _ _ _ _ m' w' _ hBi h5 (hm.trans h1) h3 ((hF.mono h1).put h2) (hb.trans h4)
  cases hw : wantedA ops n α o with
  | none => rw [hw] at hstep; exact hstep.elim
  | some b =>
   rw [wantedA_spec hF hw]
   cases b with
   | false =>
    simp only [Bool.false_eq_true, if_false]
    rw [hw] at hstep
    exact fin undef undef m H w List.prefix_rfl (plainV_mk plainV_undef) hR (.refl _ _) hstep
   | true =>
    rw [hw, stepW_t] at hstep
    simp only [if_true]
    refine .inl ?_
    unfold Oper.wp
    cases hc : calleeOf γ α o.op with
    | some c =>
     obtain ⟨cf, cargs⟩ := c
     rw [hc, stepC_s, XLk_call] at hstep
     obtain ⟨hcal, hac⟩ := hstep
     obtain ⟨xs, ts, hop, rfl⟩ := callee_ops hc
     have hxs : xs.all (okOpd n γ) = true := by
      have := hoko
      rw [hop] at this
      rw [Array.all_eq_true] at this ⊢
      intro i hi
      have := this (i + 1) (by simp [Op.operands, Call.operands]; omega)
      simpa [Op.operands, Call.operands, Array.getElem_append] using this
     obtain ⟨h1, h2⟩ := args_rel hR hF hxs
     rcases hac m base w (xs.map a.eval) hR h1 h2 with ⟨hbd, hac'⟩ | ⟨v0, hrun, m', v, v', H', he, hm', hv, hR', hb', hx⟩
     ·rw [call_run hop hcal hbd, Oper.upon_enter]
      refine hac'.mono ?_
      rintro e w' ⟨m', v, v', H', rfl, hm', hv, hR', hb', hx⟩
      exact fin v v' m' H' w' hm' hv hR' hb' hx
     ·cases he
      rw [call_runV hop hrun, Oper.upon_value]
      exact fin v v0 m' H' w hm' hv hR' hb' hx
    | none =>
     rw [hc, stepC_n] at hstep
     cases hxo : xop P nro γ o.op α H with
     | none =>
      rw [hxo, stepX_n] at hstep
      cases hcx : calleeX P γ α o.op with
      | none => rw [hcx] at hstep; exact hstep.elim
      | some c =>
       obtain ⟨cf, cargs⟩ := c
       rw [hcx, stepN_s, XLk_call] at hstep
       obtain ⟨hcal, hac⟩ := hstep
       obtain ⟨args', h1, h2, hrun1, hrun2⟩ := calleeX_run (P := P) hR hF hoko hcx
       rcases hac m base w args' hR h1 h2 with ⟨hbd, hac'⟩ | ⟨v0, hrun, m', v, v', H', he, hm', hv, hR', hb', hx⟩
       ·rw [hrun1 hcal hbd, Oper.upon_enter]
        refine hac'.mono ?_
        rintro e w' ⟨m', v, v', H', rfl, hm', hv, hR', hb', hx⟩
        exact fin v v' m' H' w' hm' hv hR' hb' hx
       ·cases he
        rw [hrun2 v0 hrun, Oper.upon_value]
        exact fin v v0 m' H' w hm' hv hR' hb' hx
     | some vH =>
      obtain ⟨v, H'⟩ := vH
      rw [hxo, stepX_s, XLk_val] at hstep
      obtain ⟨m', x, w', v', h1, h2, h3, h4, h5, h6⟩ := xop_av hoko hxo m base w a hR hF
      rw [h1]
      rcases h2 with rfl | ⟨rfl, rfl⟩
      ·exact fin v v' m' H' w' h3 h4 h5 h6 hstep
      ·exact fin v undef m' H' w' h3 h4 h5 h6 hstep
theorem SL.sound_pureT {F : Nat} {os : List (List Nat)} {l : List Oper} (hl : l.toArray = ops) (hok : okL n γ l = true) {Qk : Fm → Prop} {Q' : Exit → Act → World → Prop} (hQ : ∀ c a w, ¬ Q' (.panic c) a w) (hsel : Region.noSelect ops = true)
  (hR : Rel nro base γ m H w) (hK : ∀ a α listed, FR n m α a → ordersB ops F listed os = true → Qk α → wpAny P .any ops Q' F listed a w) :
  ∀ (ps : List Nat) (listed : Array Bool) (α : Fm) (a : Act), pureTreeB ops F os ps listed = true → FR n m α a → SL P n γ ops Qk H (sel l ps) α → wpAny P .any ops Q' (ps.length + F) listed a w
 | [], listed, α, a, hB, hF, h => by
  simp only [List.length_nil, Nat.zero_add]
  exact hK a α listed hF hB h
 | i :: ps, listed, α, a, hB, hF, h => by
  simp only [pureTreeB, Bool.and_eq_true] at hB
  obtain ⟨⟨⟨hr, hf⟩, hp⟩, hB'⟩ := hB
  have hr' : i ∈ Region.ready .any ops listed := by simpa using hr
  obtain ⟨_, oi, hoi, _⟩ := mem_ready.1 hr'
  have hli : l[i]? = some oi := by rw [← hoi, ← hl]; simp
  simp only [hoi] at hp
  have hoki : oi.op.operands.all (okOpd n γ) = true := by
   have := List.all_eq_true.1 hok oi (List.mem_of_getElem? hli)
   exact this
  simp only [sel, hli] at h
  unfold SL at h
  rw [show (i :: ps).length + F = (ps.length + F) + 1 by simp; omega]
  split at h
  ·exact h.elim
  ·rename_i hw
   have hwt := wantedA_spec hF hw
   exact wpAny_take hoi hsel hf hr (fun c a w h => absurd h (hQ c _ w)) (.inr ⟨hwt, rfl⟩) (SL.sound_pureT hl hok hQ hsel hR hK ps _ _ _ hB' (hF.put (plainV_mk plainV_undef)) h)
  ·rename_i hw
   have hwt := wantedA_spec hF hw
   split at h
   ·rename_i v hx
    obtain ⟨v', h1, h2⟩ := xread_all hp hoki hx hR hF
    exact wpAny_take hoi hsel hf hr (fun c a w h => absurd h (hQ c _ w)) (.inl ⟨hwt, h2⟩) (SL.sound_pureT hl hok hQ hsel hR hK ps _ _ _ hB' (hF.put h1) h)
   ·exact h.elim
theorem aw_ptree {id : Nat} {l : List Oper} (ps : List Nat) (F : Nat) (os : List (List Nat)) (hm : P.follows .mixedOrders = true) (hB : ptreeB l.toArray ps F os = true) (hok : okL n γ l = true)
  (h : ∀ K : Fm → AH → Prop, (∀ α' H', Q .normal α' H' → K α' H') → SL P n γ l.toArray (fun α1 => XO P nro n γ l.toArray K l F os α1 H) H (sel l ps) α) :
  AW P nro n γ (.region id l.toArray true) Q α H := by
 intro m base w a hR hF
 simp only [ptreeB, Bool.and_eq_true, decide_eq_true_eq] at hB
 obtain ⟨⟨hsel, hn⟩, hpt⟩ := hB
 refine wp_region_noPanic (wp_region_any hm ?_)
 have hR' : Rel nro base γ m H { w with drawn := w.drawn + 1 } := hR.drewN 1
 rw [← hn] at hpt ⊢
 refine SL.sound_pureT rfl hok (fun c a w h => h) hsel hR' (fun a1 α1 listed1 hF1 hst hq => ?_) ps _ α a hpt hF (h _ fun _ _ h => h)
 exact tree_runG rfl hok (w0 := { w with drawn := w.drawn + 1 }) (m0 := m) (fun m' α' H' a' w' h1 h2 h3 h4 h5 => NoPanic.normal ⟨m', α', H', h1, h2, h3, (Below.drew (.refl base w)).trans h4, h5⟩) F listed1 os α1 H m _ a1 hst hq List.prefix_rfl hR' hF1 (.refl _ _)
end
end
section
section
variable {P : Program} {nro n base : Nat} {γ : Nat → Option Nat} {m : List Ent} {H : AH} {α : Fm} {a : Act} {w : World}
theorem ops_ev {o : Oper} (hok : o.op.operands.all (okOpd n γ) = true) (hR : Rel nro base γ m H w) (hF : FR n m α a) : ∀ x ∈ o.op.operands, V m (α.eval γ x) (a.eval x) := fun x hx => hF.eval hR (by
 obtain ⟨i, hi, rfl⟩ := Array.mem_iff_getElem.1 hx
 exact (Array.all_eq_true.1 hok) i hi)
theorem Rel.told (hR : Rel nro base γ m H w) {i : Nat} {k : Blk} {e : Ent} (hi : nro ≤ i) (hk : hget H i = some k) (he : m[i]? = some e) {s : Nat} (hes : k.es = some s) : k.cells.length ≤ e.sz ∧ e.es = some s ∧ e.o = 0 := by
 obtain ⟨cs, fr, h1, h2, h3, h4, h5⟩ := hR.cells i k e (hget_some hk) (hR.noMapE (hget_some hk) he hes) he
 have ho := hR.own i e hi he
 refine ⟨?_, by rw [h3, hes], ho.2⟩
 rcases Nat.eq_zero_or_pos k.cells.length with h0 | h0
 ·omega
 ·obtain ⟨y, hy, _⟩ := h5 (k.cells.length - 1) _ (List.getElem?_eq_getElem (by omega))
  have := (Array.getElem?_eq_some_iff.1 hy).1
  have := h2 hi
  omega
theorem av_slice_room {o : Oper} {t e : TypeId} {x : Operand} {lo hi : Option Operand} {i len : Nat} {l h : Int} {k : Blk} (ho : o.op = .slice t x lo hi none) (hok : o.op.operands.all (okOpd n γ) = true) (hu : und P t = .slice e)
  (hx : α.eval γ x = .slice (some ⟨i, 0, none⟩) len len) (hl : bnd (lo.map (α.eval γ)) 0 = some l) (hh : bnd (hi.map (α.eval γ)) len = some h) (hk : hget H i = some k) (hi' : nro ≤ i) (hes : k.es = some (szt P e)) (h0 : 0 < szt P e)
  (h1 : 0 ≤ l) (h2 : l ≤ h) (h3 : h.toNat * szt P e ≤ k.cells.length) :
  AV P nro n γ o α H (if l ≠ 0 ∧ h = l then .slice (some ⟨i, 0, some 0⟩) 0 0 else .slice (some ⟨i, l.toNat * szt P e, none⟩) (h.toNat - l.toNat) (h.toNat - l.toNat + 1)) H := by
 intro m base w a hR hF
 have ev := ops_ev hok hR hF
 rw [ho] at ev
 have hx' := ev x (by simp [Op.operands])
 rw [hx] at hx'
 obtain ⟨en, c', _, he, hcc, hsz, hy⟩ := hx'.sl_
 obtain ⟨t1, t2, t3⟩ := hR.told hi' hk he hes
 obtain ⟨c1, c2⟩ := hsz rfl _ t2
 have hhc : h.toNat ≤ c' := by
  have : h.toNat * szt P e ≤ c' * szt P e := by omega
  exact Nat.le_of_mul_le_mul_right this h0
 have hb := bounds_run (P := P) (isS := true) (cap := c') (bnd_cases (a := a) (m := m) (fun y hy => ev y (by subst hy; simp [Op.operands])) hl) (bnd_cases (a := a) (m := m) (fun y hy => ev y (by subst hy; simp [Op.operands])) hh) h1 h2 (by omega) w
 have hrun : (Instr.sliceAt t (a.eval x) (lo.map a.eval) (hi.map a.eval) none).run P w =
   .ok (.slice (if c' = l.toNat then some ⟨en.b, en.o + 0, none⟩ else (some ⟨en.b, en.o + 0, none⟩ : Option Addr).map (·.add (l.toNat * szt P e))) (h.toNat - l.toNat) (c' - l.toNat)) w := by
  rw [hy]
  simp [Instr.sliceAt, Instr.slice, run_underlying (und_some hu (by simp)), hb, run_sizeOf h0]
 obtain ⟨dst, op, type, pos, after, guard⟩ := o
 simp only at ho
 subst ho
 refine ⟨m, _, w, _, run_v2 hrun, .inl rfl, List.prefix_rfl, ?_, hR, .refl _ _⟩
 by_cases hz : l ≠ 0 ∧ h = l
 ·rw [if_pos hz]
  have e0 : h.toNat - l.toNat = 0 := by rw [hz.2]; omega
  rw [e0]
  split
  ·exact .one .sl0
  ·exact .one .sl0
 ·rw [if_neg hz]
  have hne : c' = l.toNat → l.toNat * szt P e = 0 := by
   intro hk
   by_cases hl0 : l = 0
   ·subst hl0; simp
   ·exact absurd ⟨hl0, by omega⟩ hz
  have e1 : (if c' = l.toNat then some ⟨en.b, en.o + 0, none⟩ else (some ⟨en.b, en.o + 0, none⟩ : Option Addr).map (·.add (l.toNat * szt P e))) = some ⟨en.b, en.o + l.toNat * szt P e, none⟩ := by
   rw [Option.map_some, add_none]
   split
   ·rename_i hk; rw [hne hk]
   ·rfl
  rw [e1]
  exact .one (.slv he (by omega))
theorem bounds3_run {lo hi mx : Value} {len cap : Nat} {l h mm : Int} {k1 k2 k3 : IntKind} (hl : lo = .int k1 l) (hh : hi = .int k2 h) (hm : mx = .int k3 mm) (h0 : 0 ≤ l) (h1 : l ≤ h) (h2 : h ≤ mm) (h3 : mm ≤ cap) (w : World) :
  (Instr.sliceBounds true len cap (some lo) (some hi) (some mx)).run P w = .ok (l.toNat, h.toNat, mm.toNat) w := by
 subst hl hh hm
 have e1 : 0 ≤ h := by omega
 have e2 : 0 ≤ mm := by omega
 have e5 : h ≤ max mm 0 := by omega
 have e6 : l ≤ max h 0 := by omega
 simp [Instr.sliceBounds, Instr.sliceBound, asIntOf, h0, e1, e2, h3, e5, e6]
theorem av_slice3 {o : Oper} {t e : TypeId} {x lo hi mx : Operand} {i off len c : Nat} {l h mm : Int} {k1 k2 k3 : IntKind} (ho : o.op = .slice t x (some lo) (some hi) (some mx)) (hok : o.op.operands.all (okOpd n γ) = true) (hu : und P t = .slice e)
  (hx : α.eval γ x = .slice (some ⟨i, off, none⟩) len c) (hl : α.eval γ lo = .int k1 l) (hh : α.eval γ hi = .int k2 h) (hm : α.eval γ mx = .int k3 mm) (h0 : 0 < szt P e) (h1 : 0 ≤ l) (h2 : l < h) (h3 : h ≤ mm) (h4 : mm ≤ len) :
  AV P nro n γ o α H (.slice (some ⟨i, off + l.toNat * szt P e, none⟩) (h.toNat - l.toNat) (h.toNat - l.toNat + 1)) H := by
 intro m base w a hR hF
 have ev := ops_ev hok hR hF
 rw [ho] at ev
 have hx' := ev x (by simp [Op.operands])
 rw [hx] at hx'
 have hl' := ev lo (by simp [Op.operands])
 rw [hl] at hl'
 have hh' := ev hi (by simp [Op.operands])
 rw [hh] at hh'
 have hm' := ev mx (by simp [Op.operands])
 rw [hm] at hm'
 obtain ⟨en, c', he, hcc, hy, _⟩ := hx'.slw_
 have hb := bounds3_run (P := P) (len := len) (cap := c') hl'.int_ hh'.int_ hm'.int_ h1 (by omega) h3 (by omega) w
 have hrun : (Instr.sliceAt t (a.eval x) (some (a.eval lo)) (some (a.eval hi)) (some (a.eval mx))).run P w =
   .ok (.slice (some ((⟨en.b, en.o + off, none⟩ : Addr).add (l.toNat * szt P e))) (h.toNat - l.toNat) (mm.toNat - l.toNat)) w := by
  have hne : ¬ mm.toNat = l.toNat := by omega
  rw [hy]
  simp [Instr.sliceAt, Instr.slice, run_underlying (und_some hu (by simp)), hb, run_sizeOf h0, hne]
 obtain ⟨dst, op, type, pos, after, guard⟩ := o
 simp only at ho
 subst ho
 refine ⟨m, _, w, _, run_v2 hrun, .inl rfl, List.prefix_rfl, ?_, hR, .refl _ _⟩
 rw [add_none, Nat.add_assoc]
 exact .one (.slv he (by omega))
theorem av_append_in {o : Oper} {t e : TypeId} {s x : Operand} {i len : Nat} {k : Blk} {news : List Value} (ho : o.op = .call ⟨.builtin .append, #[s, x], #[t, t]⟩) (hok : o.op.operands.all (okOpd n γ) = true) (hu : und P t = .slice e)
  (hs : α.eval γ s = .slice (some ⟨i, 0, none⟩) len len) (hx : xcells (szt P e) (α.eval γ x) H = some news) (hns : ∀ b, α.eval γ x ≠ .string b) (hk : hget H i = some k) (hi' : nro ≤ i) (hes : k.es = some (szt P e)) (hty : k.ty = e) (h0 : 0 < szt P e)
  (hfit : len * szt P e + news.length ≤ k.cells.length) :
  AV P nro n γ o α H (.slice (some ⟨i, 0, none⟩) (len + news.length / szt P e) (len + news.length / szt P e)) (H.set i (some ⟨setR k.cells (len * szt P e) news, k.ty, k.es⟩)) := by
 intro m base w a hR hF
 have ev := ops_ev hok hR hF
 rw [ho] at ev
 have hs' := ev s (by simp [Op.operands, Call.operands])
 rw [hs] at hs'
 have hx' := ev x (by simp [Op.operands, Call.operands])
 obtain ⟨en, c', _, he, hcc, hsz, hy⟩ := hs'.sl_
 obtain ⟨t1, t2, t3⟩ := hR.told hi' hk he hes
 obtain ⟨c1, c2⟩ := hsz rfl _ t2
 have hus := und_some hu (by simp)
 have hrun0 : ∀ v' w', (Builtin.append_ #[t, t] o.type #[a.eval s, a.eval x]).run P w = .ok v' w' → (execOp a.eval o).run P w = .ok (.value v') w' := by
  intro v' w' hr
  obtain ⟨dst, op, type, pos, after, guard⟩ := o
  simp only at ho
  subst ho
  simp only at hr
  simp [execOp, resolve, invoke, builtin, hr]
 obtain ⟨cnt, news', hv, hl', happ⟩ : ∃ cnt news', Vs m news news' ∧ news'.length = cnt * szt P e ∧
   ((a.eval x = .slice none 0 0 ∧ cnt = 0) ∨ ∃ ad c, a.eval x = .slice (some ad) cnt c ∧ ∀ (j : Nat) (u : Value), news'[j]? = some u → w.cell? (ad.add j) = some u) := by
  rcases xcells_slice hR hx' hx hns with ⟨h1, h2⟩ | ⟨ad, cnt, c, news', h1, hv, hl', hcell⟩
  ·exact ⟨0, [], by rw [h2]; exact ⟨rfl, by simp⟩, by simp, .inl ⟨h1, rfl⟩⟩
  ·exact ⟨cnt, news', hv, hl', .inr ⟨ad, c, h1, hcell⟩⟩
 have hnl : news.length = cnt * szt P e := by rw [← hv.1]; exact hl'
 have hdiv : news.length / szt P e = cnt := by rw [hnl]; exact Nat.mul_div_cancel _ h0
 have hroom : len + cnt ≤ c' := by
  have : (len + cnt) * szt P e ≤ c' * szt P e := by rw [Nat.add_mul]; omega
  exact Nat.le_of_mul_le_mul_right this h0
 obtain ⟨w', h1, h2, h3⟩ := storeCells_rel (P := P) hi' he news news' (len * szt P e) 0 H w k hv hR (hget_some hk) (by omega)
 have hkm := hR.noMapE (hget_some hk) he hes
 rw [with_eq hkm, Nat.add_zero] at h2
 refine ⟨m, _, w', _, hrun0 (.slice (some ⟨en.b, 0, none⟩) (len + cnt) c') w' ?_, .inl rfl, List.prefix_rfl, ?_, h2, h3⟩
 ·have hst : (storeCells ((⟨en.b, 0, none⟩ : Addr).add (len * szt P e)) news').run P w = .ok () w' := by rw [add_none, Nat.zero_add]; exact h1
  rw [hy, t3]
  rcases happ with ⟨hxe, rfl⟩ | ⟨ad, c, hxe, hcell⟩
  ·have hn0 : news' = [] := List.eq_nil_of_length_eq_zero (by simpa using hl')
   rw [hn0] at h1
   cases h1
   rw [hxe]
   exact slice_none_append hu h0 hcc w
  ·have hfc : (Builtin.firstCells (szt P e) cnt (.slice (some ad) cnt c)).run P w = .ok news'.toArray w := run_firstCells_some w (szt P e) cnt ad cnt c news' hl' hcell
   rw [hxe]
   simp [Builtin.append_, run_underlying hus, run_sizeOf h0, Builtin.lenOf, hroom, hfc, hst]
 ·rw [hdiv]
  have : V m (.slice (some ⟨i, 0, none⟩) (len + cnt) (len + cnt)) (.slice (some ⟨en.b, en.o + 0, none⟩) (len + cnt) c') := .one (.sl he hroom (fun _ s hs => by
   rw [t2] at hs
   cases hs
   exact ⟨c1, c2⟩))
  rw [t3] at this
  exact this
theorem wpList_then {ops : Array Oper} {Q1 Q2 : Exit → Act → World → Prop} {l2 : List Oper} (hn : ∀ a w, Q1 .normal a w → wpList P ops Q2 l2 a w) (ho : ∀ e a w, e ≠ .normal → Q1 e a w → Q2 e a w) : ∀ (l : List Oper) (a : Act) (w : World), wpList P ops Q1 l a w → wpList P ops Q2 (l ++ l2) a w
 | [], a, w, h => hn a w h
 | o :: l, a, w, h => by
  rw [List.cons_append]
  unfold wpList at h ⊢
  have hout : LetsOut Q1 → LetsOut Q2 := fun ⟨a, w, h⟩ => ⟨a, w, ho _ _ _ (by simp) h⟩
  split
  ·rename_i hw
   rw [if_pos hw] at h
   refine h.imp (fun h => ?_) (fun h => ⟨h.1, hout h.2⟩)
   unfold Oper.wp at h ⊢
   generalize (execOp a.eval o).run P w = r at *
   cases r with
   | ok x w' =>
    cases x <;> simp only [Oper.upon] at h ⊢ <;>
     first
      | exact wpList_then hn ho l _ _ h
      | exact Calls.mono h (fun e w'' he => by cases e <;> first | exact wpList_then hn ho l _ _ he | exact ho _ _ _ (by simp) he | exact hout he)
      | exact Go.Rows.mono h (fun _ _ he => wpList_then hn ho l _ _ he)
   | halt x w' => cases x <;> simp only [Oper.upon] at h ⊢ <;> first | exact ho _ _ _ (by simp) h | exact h
  ·rename_i hw
   rw [if_neg hw] at h
   exact wpList_then hn ho l _ _ h
theorem al_then {ops : Array Oper} {Q : Exit → Fm → AH → Prop} {l2 : List Oper} (l1 : List Oper) (hok : okL n γ l1 = true) (h : XL P nro n γ ops (fun α' H' => AL P nro n γ ops Q l2 α' H') l1 α H) : AL P nro n γ ops Q (l1 ++ l2) α H := by
 intro m base w a hR hF
 have h1 : AL P nro n γ ops (thenQ (fun α' H' => AL P nro n γ ops Q l2 α' H') Q) l1 α H := XL.sound l1 α H hok h
 refine wpList_then (fun a' w' hc => ?_) (fun e a' w' hne hc => ?_) l1 a w (h1 m base w a hR hF)
 ·obtain ⟨m', α', H', hm, hR', hF', hb, hq⟩ := hc
  exact wpList_mono (fun e a w hc => hc.trans hm hb) _ _ _ (hq m' base w' a' hR' hF')
 ·obtain ⟨m', α', H', hm, hR', hF', hb, hq⟩ := hc
  cases e with
  | normal => exact absurd rfl hne
  | _ => exact ⟨m', α', H', hm, hR', hF', hb, hq⟩
theorem aw_opsA {id : Nat} {l : List Oper} {Q : Exit → Fm → AH → Prop} (k : Nat) (hok : okL n γ (l.take k) = true) (h : XL P nro n γ l.toArray (fun α' H' => AL P nro n γ l.toArray Q (l.drop k) α' H') (l.take k) α H) : AW P nro n γ (.region id l.toArray false) Q α H := by
 refine aw_region ?_
 have := al_then (Q := Q) (l2 := l.drop k) (l.take k) hok h
 rwa [List.take_append_drop] at this
theorem aw_tailA {id : Nat} {l : List Oper} {Q : Exit → Fm → AH → Prop} (k : Nat) (hm : P.follows .mixedOrders = true) (hB : Region.lexTailB .any l.toArray k = true) (hok : okL n γ l = true)
  (h : SL P n γ l.toArray (fun α' => AL P nro n γ l.toArray Q (l.drop k) α' H) H (l.take k) α) : AW P nro n γ (.region id l.toArray true) Q α H := by
 intro m base w a hR hF
 refine wp_region_still_tail k hm hB ?_
 have hR' : Rel nro base γ m H { w with drawn := w.drawn + 1 } := hR.drewN 1
 refine SL.sound hR' (fun a' α' hF' hq => ?_) (l.take k) α a (okL_take hok k).1 hF h
 have := hq m base _ a' hR' hF'
 refine wpList_mono (fun e a w' hc => ?_) _ _ _ this
 exact Con.trans (w := { w with drawn := w.drawn + 1 }) List.prefix_rfl (Below.drew (.refl base w)) hc
theorem al_xl {ops : Array Oper} {Q : Exit → Fm → AH → Prop} {l : List Oper} (hok : okL n γ l = true) (h : ∀ K : Fm → AH → Prop, (∀ α' H', Q .normal α' H' → K α' H') → XL P nro n γ ops K l α H) : AL P nro n γ ops Q l α H := XL.sound l α H hok (h _ fun _ _ h => h)
theorem unit_nt : plainV (.tuple #[]) = true := by simp [plainV]
theorem av_clear {o : Oper} {t e : TypeId} {x : Operand} {i off len c : Nat} {k : Blk} {z : Value} (ho : o.op = .call ⟨.builtin .clear, #[x], #[t]⟩) (hok : o.op.operands.all (okOpd n γ) = true) (hu : und P t = .slice e)
  (hx : α.eval γ x = .slice (some ⟨i, off, none⟩) len c) (hk : hget H i = some k) (hi' : nro ≤ i) (hkm : k.ents = none) (h0 : 0 < szt P e) (hz : zer P e = some z) (hzs : z.cells.size = szt P e) (hp : z.cells.toList.all plain1 = true) (hfit : off + len * szt P e ≤ k.cells.length) :
  AV P nro n γ o α H (.tuple #[]) (H.set i (some ⟨setR k.cells off ((List.range (len * szt P e)).map fun j => z.cells.toList.getD (j % szt P e) undef), k.ty, k.es⟩)) := by
 intro m base w a hR hF
 have ev := ops_ev hok hR hF
 rw [ho] at ev
 have hx' := ev x (by simp [Op.operands, Call.operands])
 rw [hx] at hx'
 have hus := und_some hu (by simp)
 obtain ⟨Z, hZ⟩ : ∃ Z, Z = (Builtin.zeroCells z.cells len).toList := ⟨_, rfl⟩
 have hZe : Z = (List.range (len * szt P e)).map fun j => z.cells.toList.getD (j % szt P e) undef := by
  rw [hZ]
  unfold Builtin.zeroCells
  rw [zeros_eq _ _ (by omega), hzs]
 have hv : Vs m ((List.range (len * szt P e)).map fun j => z.cells.toList.getD (j % szt P e) undef) Z := by
  rw [hZe]; exact plain_Vs (zeros_plain _ _ _ h0 (by simpa using hzs) hp)
 obtain ⟨en, c', w', hy, h1, h2, h3⟩ := copy_store (P := P) hR hx' hk hi' hv (by simpa using hfit)
 rw [with_eq hkm] at h2
 refine ⟨m, _, w', .tuple #[], ?_, .inl rfl, List.prefix_rfl, plainV_mk unit_nt, h2, h3⟩
 obtain ⟨dst, op, type, pos, after, guard⟩ := o
 simp only at ho
 subst ho
 have hr : (Builtin.clear_ #[t] type #[a.eval x]).run P w = .ok (.tuple #[]) w' := by
  rw [hy]
  cases len with
  | zero =>
   have : Z = [] := by rw [hZe]; simp
   rw [this] at h1
   cases h1
   simp [Builtin.clear_, run_underlying hus]
  | succ len => simp [Builtin.clear_, run_underlying hus, run_zero hz, ← hZ, h1]
 simp [execOp, resolve, invoke, builtin, hr]
end
end
end Go.Proofs.Ytdeccbjdhcifiaa
