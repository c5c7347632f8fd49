/-
  Data of any depth that come in (structs, arrays, slices of numbers, texts and bools, within one another): their blocks, only read. Over any program.
-/
import Derived.Test.YtlaglpnbmkoakaaDoorFmB
import Derived.Shelf.Strings.Builder1
namespace Go.Proofs.YtlaglpnbmkoakaaDoor
open Go Go.RowKit
set_option linter.unusedSimpArgs false
set_option linter.unusedVariables false
set_option maxRecDepth 100000
set_option maxHeartbeats 8000000
section
open Go Go.RowKit Go.ChangeShapes Go.WideShapes Go.ChangeAt
inductive CD where
 | int (k : IntKind) (z : Int) | str (s : ByteArray) | bool (b : Bool) | sl (rows : List (List CD))
inductive CK where
 | int (k : IntKind) | str | bool | sl (ks : List CK)
inductive CD.Ok : CK → CD → Prop
 | int {k : IntKind} {z : Int} (h : (Lit.int k z).wf = true) : CD.Ok (.int k) (.int k z)
 | str {s : ByteArray} (h : s.size ≤ maxLen) : CD.Ok .str (.str s)
 | bool {b : Bool} : CD.Ok .bool (.bool b)
 | sl {ks : List CK} {rows : List (List CD)} (h : rows.length ≤ maxLen) (hl : ∀ row ∈ rows, row.length = ks.length) (hd : ∀ row ∈ rows, ∀ (c : Nat) (k : CK) (d : CD), ks[c]? = some k → row[c]? = some d → CD.Ok k d) : CD.Ok (.sl ks) (.sl rows)
def OkL (ks : List CK) (ds : List CD) : Prop := ds.length = ks.length ∧ ∀ (c : Nat) (k : CK) (d : CD), ks[c]? = some k → ds[c]? = some d → CD.Ok k d
inductive CD.Val (H : AH) : CD → Value → Prop
 | int {k : IntKind} {z : Int} : CD.Val H (.int k z) (.int k z)
 | str {s : ByteArray} : CD.Val H (.str s) (.string s)
 | bool {b : Bool} : CD.Val H (.bool b) (.bool b)
 | nil {a : Option Addr} (ha : ∀ x, a = some x → x.spot = some 0) : CD.Val H (.sl []) (.slice a 0 0)
 | sl {sz j : Nat} {k : Blk} {rows : List (List CD)} (h1 : hget H j = some k) (h2 : rows.length * sz ≤ k.cells.length) (h3 : ∀ row ∈ rows, row.length = sz)
   (h4 : ∀ (i : Nat) (row : List CD) (c : Nat) (d : CD) (x : Value), rows[i]? = some row → row[c]? = some d → k.cells[i * sz + c]? = some x → CD.Val H d x) : CD.Val H (.sl rows) (.slice (some ⟨j, 0, none⟩) rows.length rows.length)
def ValL (H : AH) (ds : List CD) (us : List Value) : Prop := us.length = ds.length ∧ ∀ (c : Nat) (d : CD) (u : Value), ds[c]? = some d → us[c]? = some u → CD.Val H d u
theorem CD.Val.low {H H' : AH} {d : CD} {v : Value} (hl : ∀ j, j < H.length → hget H' j = hget H j) (h : CD.Val H d v) : CD.Val H' d v := by
 induction h with
 | int => exact .int
 | str => exact .str
 | bool => exact .bool
 | nil h => exact .nil h
 | sl h1 h2 h3 h4 ih => exact .sl (by rw [hl _ (hget_lt h1)]; exact h1) h2 h3 ih
inductive CellD (W : World) : CD → Value → Prop
 | int {k : IntKind} {z : Int} : CellD W (.int k z) (.int k z)
 | str {s : ByteArray} : CellD W (.str s) (.string s)
 | bool {b : Bool} : CellD W (.bool b) (.bool b)
 | nil : CellD W (.sl []) (.slice none 0 0)
 | sl {a : Addr} {cap sz : Nat} {rows : List (List CD)} (f : Nat → Nat → Value) (h0 : 0 < sz) (h1 : rows.length ≤ cap) (h2 : ∀ row ∈ rows, row.length = sz)
   (h3 : ∀ (i : Nat) (row : List CD) (c : Nat) (d : CD), rows[i]? = some row → row[c]? = some d → W.cell? (a.add (i * sz + c)) = some (f i c))
   (h4 : ∀ (i : Nat) (row : List CD) (c : Nat) (d : CD), rows[i]? = some row → row[c]? = some d → CellD W d (f i c)) : CellD W (.sl rows) (.slice (some a) rows.length cap)
def CellL (W : World) (ds : List CD) (cs : List Value) : Prop := cs.length = ds.length ∧ ∀ (c : Nat) (d : CD) (x : Value), ds[c]? = some d → cs[c]? = some x → CellD W d x
section
variable {P : Program} {W : World} {H : Type} {enc : TypeId × Value → H}
def fieldsN (P : Program) (f : TypeId → Option (List CK)) : List Field → Nat → Option (List CK)
 | [], _ => some []
 | x :: l, o => (f x.type).bind fun ks => if x.offset = o ∧ P.cellsOf x.type = ks.length then (fieldsN P f l (o + ks.length)).map (ks ++ ·) else none
def kindsN (P : Program) : Nat → TypeId → Option (List CK)
 | 0, _ => none
 | n + 1, t => match P.underlying t with
  | some (.int k) => some [.int k]
  | some .string => some [.str]
  | some .bool => some [.bool]
  | some (.slice e) => (kindsN P n e).bind fun ks => if P.cellsOf e = ks.length ∧ 0 < ks.length then some [.sl ks] else none
  | some (.array m e) => (kindsN P n e).bind fun ks => if P.cellsOf e = ks.length ∧ P.cellsOf t = m * ks.length then some (List.replicate m ks).flatten else none
  | some (.struct fs) => (fieldsN P (kindsN P n) fs.toList 0).bind fun ks => if P.cellsOf t = ks.length then some ks else none
  | _ => none
theorem pieces : ∀ (ps : List (List CK)) (cs : List Value), cs.length = ps.flatten.length →
  (∀ (i : Nat) (ks : List CK), ps[i]? = some ks → ∃ ds, OkL ks ds ∧ CellL W ds ((cs.drop (ps.take i).flatten.length).take ks.length)) → ∃ ds, OkL ps.flatten ds ∧ CellL W ds cs
 | [], cs, hl, _ => by
  have : cs = [] := List.eq_nil_of_length_eq_zero (by simpa using hl)
  subst this
  exact ⟨[], ⟨rfl, fun c k d h => by simp at h⟩, ⟨rfl, fun c d x h => by simp at h⟩⟩
 | ks :: ps, cs, hl, h => by
  rw [List.flatten_cons, List.length_append] at hl
  obtain ⟨d1, o1, c1⟩ := h 0 ks rfl
  simp only [List.take_zero, List.flatten_nil, List.length_nil, List.drop_zero] at c1
  obtain ⟨d2, o2, c2⟩ := pieces ps (cs.drop ks.length) (by rw [List.length_drop]; omega) (fun i ks' hi => by
   obtain ⟨ds, o, c⟩ := h (i + 1) ks' (by simpa using hi)
   rw [List.take_succ_cons, List.flatten_cons, List.length_append, ← List.drop_drop] at c
   exact ⟨ds, o, c⟩)
  have l1 : d1.length = ks.length := o1.1
  have l1' : (cs.take ks.length).length = ks.length := by rw [List.length_take]; omega
  refine ⟨d1 ++ d2, ⟨by rw [List.flatten_cons, List.length_append, List.length_append, o1.1, o2.1], fun c k d hk hd => ?_⟩, ⟨?_, fun c d x hd hx => ?_⟩⟩
  ·rw [List.flatten_cons] at hk
   rcases Nat.lt_or_ge c ks.length with hc | hc
   ·rw [List.getElem?_append_left hc] at hk
    rw [List.getElem?_append_left (by omega)] at hd
    exact o1.2 c k d hk hd
   ·rw [List.getElem?_append_right hc] at hk
    rw [List.getElem?_append_right (by omega), l1] at hd
    exact o2.2 _ k d hk hd
  ·have := c2.1
   rw [List.length_drop] at this
   have := o1.1
   rw [List.length_append]; omega
  ·rcases Nat.lt_or_ge c ks.length with hc | hc
   ·rw [List.getElem?_append_left (by omega)] at hd
    exact c1.2 c d x hd (by rw [List.getElem?_take_of_lt hc]; exact hx)
   ·rw [List.getElem?_append_right (by omega), l1] at hd
    exact c2.2 _ d x hd (by rw [List.getElem?_drop, show ks.length + (c - ks.length) = c by omega]; exact hx)
theorem fieldsN_pieces {f : TypeId → Option (List CK)} : ∀ (l : List Field) (o : Nat) (ks : List CK), fieldsN P f l o = some ks →
  ∃ ps : List (List CK), ks = ps.flatten ∧ ps.length = l.length ∧ ∀ (i : Nat) (x : Field), l[i]? = some x → ∃ k, ps[i]? = some k ∧ f x.type = some k ∧ x.offset = o + (ps.take i).flatten.length ∧ P.cellsOf x.type = k.length
 | [], o, ks, h => by
  cases h
  exact ⟨[], rfl, rfl, fun i x hx => by simp at hx⟩
 | x :: l, o, ks, h => by
  unfold fieldsN at h
  cases hk : f x.type with
  | none => rw [hk] at h; cases h
  | some k =>
   rw [hk] at h
   simp only [Option.bind_some] at h
   split at h
   case isFalse => cases h
   rename_i hc
   cases hr : fieldsN P f l (o + k.length) with
   | none => rw [hr] at h; cases h
   | some kr =>
    rw [hr] at h
    cases h
    obtain ⟨ps, rfl, hpl, hp⟩ := fieldsN_pieces l _ kr hr
    refine ⟨k :: ps, rfl, by simp [hpl], fun i y hy => ?_⟩
    cases i with
    | zero =>
     cases hy
     exact ⟨k, rfl, hk, by simp [hc.1], hc.2⟩
    | succ i =>
     obtain ⟨k', h1, h2, h3, h4⟩ := hp i y (by simpa using hy)
     exact ⟨k', by simpa using h1, h2, by rw [h3, List.take_succ_cons, List.flatten_cons, List.length_append]; omega, h4⟩
theorem flatten_rep {β : Type} (m i : Nat) (ks : List β) (hi : i < m) : ((List.replicate m ks).take i).flatten.length = i * ks.length ∧ (List.replicate m ks)[i]? = some ks := by
 refine ⟨?_, by rw [List.getElem?_replicate, if_pos hi]⟩
 rw [List.take_replicate, List.length_flatten, List.map_replicate, List.sum_replicate_nat, Nat.min_eq_left (Nat.le_of_lt hi)]
theorem open_cells {base : Nat} {sp : Nat → Bool} {hd : Bool} : ∀ (fuel n : Nat) (t : TypeId) (ks : List CK) (cs : List Value) (y : DataW H × List MemPlace), kindsN P n t = some ks → DataW.trod enc P W base sp hd fuel t cs = some y → ∃ ds, OkL ks ds ∧ CellL W ds cs := by
 intro fuel
 induction fuel with
 | zero => intro n t ks cs y _ h; simp [DataW.trod] at h
 | succ fuel ih =>
  intro n t ks cs y hk h
  cases n with
  | zero => cases hk
  | succ n =>
   unfold kindsN at hk
   split at hk
   ·rename_i k hu
    cases hk
    obtain ⟨z, rfl, _, hw⟩ := DataW.trod_int hu h
    exact ⟨[.int k z], ⟨rfl, fun c k d h1 h2 => by cases c with | zero => cases h1; cases h2; exact .int hw | succ c => simp at h1⟩, ⟨rfl, fun c d x h1 h2 => by cases c with | zero => cases h1; cases h2; exact .int | succ c => simp at h1⟩⟩
   ·rename_i hu
    cases hk
    obtain ⟨s, rfl, _, hw⟩ := DataW.trod_string hu h
    exact ⟨[.str s], ⟨rfl, fun c k d h1 h2 => by cases c with | zero => cases h1; cases h2; exact .str hw | succ c => simp at h1⟩, ⟨rfl, fun c d x h1 h2 => by cases c with | zero => cases h1; cases h2; exact .str | succ c => simp at h1⟩⟩
   ·rename_i hu
    cases hk
    obtain ⟨b, rfl⟩ := trod_bool' hu h
    exact ⟨[.bool b], ⟨rfl, fun c k d h1 h2 => by cases c with | zero => cases h1; cases h2; exact .bool | succ c => simp at h1⟩, ⟨rfl, fun c d x h1 h2 => by cases c with | zero => cases h1; cases h2; exact .bool | succ c => simp at h1⟩⟩
   ·rename_i e hu
    cases hke : kindsN P n e with
    | none => rw [hke] at hk; cases hk
    | some ke =>
     rw [hke] at hk
     simp only [Option.bind_some] at hk
     split at hk
     case isFalse => cases hk
     rename_i hc
     obtain ⟨hc, h0⟩ := hc
     cases hk
     rcases DataW.trod_slice hu h with ⟨rfl, _⟩ | ⟨a, len, cap, elems, rest, m, hfm, rfl, _, hb, hl, hmx, hlen, hel, _, _⟩
     ·exact ⟨[.sl []], ⟨rfl, fun c k d h1 h2 => by cases c with | zero => cases h1; cases h2; exact .sl (Nat.zero_le _) (fun r hr => by cases hr) (fun r hr => by cases hr) | succ c => simp at h1⟩, ⟨rfl, fun c d x h1 h2 => by cases c with | zero => cases h1; cases h2; exact .nil | succ c => simp at h1⟩⟩
     ·obtain rfl : fuel = m := by omega
      have each : ∀ i, i < len → ∃ dx : List CD × List Value, OkL ke dx.1 ∧ CellL W dx.1 dx.2 ∧ ∀ c, c < ke.length → W.cell? (a.add (i * ke.length + c)) = dx.2[c]? := by
       intro i hi
       have h2 := hel i hi
       rw [hc, List.getElem?_eq_getElem (show i < elems.length by omega), Option.bind_eq_some_iff] at h2
       obtain ⟨cs', hcs, hy⟩ := h2
       obtain ⟨ds, o, c⟩ := ih n e ke cs' _ hke hy
       have hcell := (World.cells?_some hcs).2.2
       exact ⟨(ds, cs'), o, c, fun q hq => by rw [← hcell q hq, Addr.add_add]⟩
      obtain ⟨X, hX1, hX2⟩ := choose_list (fun i (_ : Nat) (dx : List CD × List Value) => OkL ke dx.1 ∧ CellL W dx.1 dx.2 ∧ ∀ c, c < ke.length → W.cell? (a.add (i * ke.length + c)) = dx.2[c]?) (List.range len) 0 (fun i x hx => by
       have := (List.getElem?_eq_some_iff.1 hx).1
       rw [List.length_range] at this
       rw [Nat.zero_add]
       exact each i this)
      rw [List.length_range] at hX1
      have hX : ∀ i dx, X[i]? = some dx → OkL ke dx.1 ∧ CellL W dx.1 dx.2 ∧ ∀ c, c < ke.length → W.cell? (a.add (i * ke.length + c)) = dx.2[c]? := fun i dx hi => by
       have hil := (List.getElem?_eq_some_iff.1 hi).1
       obtain ⟨y, hy1, hy2⟩ := hX2 i i (List.getElem?_range (by omega))
       rw [Nat.zero_add] at hy2
       rw [hi] at hy1
       cases hy1
       exact hy2
      have hrow : ∀ i row, (X.map (·.1))[i]? = some row → ∃ cv, OkL ke row ∧ CellL W row cv ∧ X[i]? = some (row, cv) ∧ ∀ c, c < ke.length → W.cell? (a.add (i * ke.length + c)) = cv[c]? := fun i row hr => by
       rw [List.getElem?_map] at hr
       cases hq : X[i]? with
       | none => rw [hq] at hr; cases hr
       | some dx =>
        rw [hq] at hr
        cases hr
        obtain ⟨q1, q2, q3⟩ := hX i dx hq
        exact ⟨dx.2, q1, q2, rfl, q3⟩
      have hmem : ∀ row ∈ X.map (·.1), OkL ke row := fun row hr => by
       obtain ⟨i, hi⟩ := List.mem_iff_getElem?.1 hr
       obtain ⟨cv, q, _⟩ := hrow i row hi
       exact q
      have hlen2 : (X.map (·.1)).length = len := by rw [List.length_map, hX1]
      refine ⟨[.sl (X.map (·.1))], ⟨rfl, fun c k d h1 h2 => ?_⟩, ⟨rfl, fun c d x h1 h2 => ?_⟩⟩
      ·cases c with
       | zero =>
        cases h1; cases h2
        exact .sl (by rw [hlen2]; omega) (fun row hr => (hmem row hr).1) (fun row hr => (hmem row hr).2)
       | succ c => simp at h1
      ·cases c with
       | zero =>
        cases h1; cases h2
        have hs := CellD.sl (W := W) (a := a) (cap := cap) (sz := ke.length) (rows := X.map (·.1)) (fun i c => (((X.getD i ([], [])).2).getD c undef)) h0 (by rw [hlen2]; exact hl) (fun row hr => (hmem row hr).1) (fun i row c d hi hc2 => ?_) (fun i row c d hi hc2 => ?_)
        ·rwa [hlen2] at hs
        ·obtain ⟨cv, q1, q2, q3, q4⟩ := hrow i row hi
         have hcl : c < ke.length := by rw [← q1.1]; exact (List.getElem?_eq_some_iff.1 hc2).1
         rw [q4 c hcl]
         have hcv : c < cv.length := by rw [q2.1, q1.1]; exact hcl
         simp [List.getD_eq_getElem?_getD, q3, hcv]
        ·obtain ⟨cv, q1, q2, q3, q4⟩ := hrow i row hi
         have hcl : c < ke.length := by rw [← q1.1]; exact (List.getElem?_eq_some_iff.1 hc2).1
         have hcv : c < cv.length := by rw [q2.1, q1.1]; exact hcl
         refine q2.2 c d _ hc2 ?_
         simp [List.getD_eq_getElem?_getD, q3, hcv]
       | succ c => simp at h1
   ·rename_i m e hu
    cases hke : kindsN P n e with
    | none => rw [hke] at hk; cases hk
    | some ke =>
     rw [hke] at hk
     simp only [Option.bind_some] at hk
     split at hk
     case isFalse => cases hk
     rename_i hc
     obtain ⟨hc, hct⟩ := hc
     cases hk
     obtain ⟨xs, m2, hfm, _, hl, hn, hel⟩ := DataW.trod_array hu h
     obtain rfl : fuel = m2 := by omega
     refine pieces (List.replicate m ke) cs (by rw [hl, hct, List.length_flatten, List.map_replicate, List.sum_replicate_nat]) (fun i ks hi => ?_)
     have him : i < m := by
      have := (List.getElem?_eq_some_iff.1 hi).1
      simpa using this
     obtain ⟨e1, e2⟩ := flatten_rep m i ke him
     rw [e2] at hi
     cases hi
     have h3 := hel i him
     rw [List.getElem?_eq_getElem (show i < xs.length by omega), hc] at h3
     rw [e1]
     exact ih n e ke _ _ hke h3
   ·rename_i fs hu
    cases hf : fieldsN P (kindsN P n) fs.toList 0 with
    | none => rw [hf] at hk; cases hk
    | some kf =>
     rw [hf] at hk
     simp only [Option.bind_some] at hk
     split at hk
     case isFalse => cases hk
     rename_i hc
     cases hk
     obtain ⟨xs, m2, hfm, _, hl, hn, hel⟩ := DataW.trod_struct hu h
     obtain rfl : fuel = m2 := by omega
     obtain ⟨ps, rfl, hpl, hp⟩ := fieldsN_pieces _ _ _ hf
     refine pieces ps cs (by rw [hl, hc]) (fun i ks hi => ?_)
     have him : i < fs.toList.length := by rw [← hpl]; exact (List.getElem?_eq_some_iff.1 hi).1
     obtain ⟨x, hx⟩ : ∃ x, fs.toList[i]? = some x := ⟨_, List.getElem?_eq_getElem him⟩
     obtain ⟨k', h1, h2, h3, h4⟩ := hp i x hx
     rw [hi] at h1
     cases h1
     have h5 := hel i x (by simpa using hx)
     rw [h3, h4, Nat.zero_add, List.getElem?_eq_getElem (by simp at him; omega)] at h5
     exact ih n x.type ks _ _ h2 h5
   ·cases hk
end
structure ToldL (W : World) (n : Nat) (E : List (Ent × Blk)) (us : List Value) (l : List (CD × Value)) : Prop where
 len : us.length = l.length
 ro : ∀ (A B : List (Ent × Blk)), A.length = n → ∀ x ∈ E, x.1.b < W.heap.size ∧ x.2 = ⟨x.2.cells, x.2.ty, x.1.es⟩ ∧ ∃ cs fr, W.heap[x.1.b]? = some (.cells cs x.2.ty fr) ∧ ∀ (j : Nat) (u : Value), x.2.cells[j]? = some u → ∃ y, cs[x.1.o + j]? = some y ∧ V1 ((A ++ (E ++ B)).map (·.1)) u y
 rel : ∀ (A B : List (Ent × Blk)), A.length = n → ∀ (q : Nat) (u : Value) (p : CD × Value), us[q]? = some u → l[q]? = some p → V1 ((A ++ (E ++ B)).map (·.1)) u p.2
 val : ∀ (A B : List (Ent × Blk)), A.length = n → ∀ (q : Nat) (u : Value) (p : CD × Value), us[q]? = some u → l[q]? = some p → p.1.Val ((A ++ (E ++ B)).map fun x => some x.2) u
theorem tell_list {W : World} : ∀ (l : List (CD × Value)), (∀ p ∈ l, ∀ n, ∃ E u, ToldL W n E [u] [p]) → ∀ n, ∃ E us, ToldL W n E us l
 | [], _, n => ⟨[], [], rfl, fun A B _ x hx => (by cases hx), fun A B _ q u p h => (by simp at h), fun A B _ q u p h => (by simp at h)⟩
 | p :: l, h, n => by
  obtain ⟨E1, u, t1⟩ := h p (by simp) n
  obtain ⟨E2, us, t2⟩ := tell_list l (fun p hp => h p (by simp [hp])) (n + E1.length)
  have e1 : ∀ (A B : List (Ent × Blk)), A ++ ((E1 ++ E2) ++ B) = A ++ (E1 ++ (E2 ++ B)) := fun A B => by simp
  have e2 : ∀ (A B : List (Ent × Blk)), A ++ ((E1 ++ E2) ++ B) = (A ++ E1) ++ (E2 ++ B) := fun A B => by simp
  refine ⟨E1 ++ E2, u :: us, by simp [t2.len], fun A B hA x hx => ?_, fun A B hA q v p' hq hp => ?_, fun A B hA q v p' hq hp => ?_⟩
  ·rcases List.mem_append.1 hx with hx | hx
   ·rw [e1]; exact t1.ro A (E2 ++ B) hA x hx
   ·rw [e2]; exact t2.ro (A ++ E1) B (by rw [List.length_append, hA]) x hx
  ·cases q with
   | zero => rw [e1]; exact t1.rel A (E2 ++ B) hA 0 v p' hq hp
   | succ q => rw [e2]; exact t2.rel (A ++ E1) B (by rw [List.length_append, hA]) q v p' (by simpa using hq) (by simpa using hp)
  ·cases q with
   | zero => rw [e1]; exact t1.val A (E2 ++ B) hA 0 v p' hq hp
   | succ q => rw [e2]; exact t2.val (A ++ E1) B (by rw [List.length_append, hA]) q v p' (by simpa using hq) (by simpa using hp)
theorem single_q {β γ : Type} {R : β → γ → Prop} {x : β} {y : γ} (h : R x y) : ∀ (q : Nat) (u : β) (p : γ), [x][q]? = some u → [y][q]? = some p → R u p := by
 intro q u p h1 h2
 cases q with
 | zero => cases h1; cases h2; exact h
 | succ q => simp at h1
theorem told_plain {W : World} {d : CD} {x : Value} (hp : plain1 x = true) (hv : ∀ H : AH, d.Val H x) (n : Nat) : ∃ E u, ToldL W n E [u] [(d, x)] :=
 ⟨[], x, rfl, fun A B _ y hy => (by cases hy), fun A B _ => single_q (R := fun (u : Value) (p : CD × Value) => V1 _ u p.2) (.plain hp), fun A B _ => single_q (R := fun (u : Value) (p : CD × Value) => p.1.Val _ u) (hv _)⟩
theorem div_mod_at {i c sz : Nat} (hc : c < sz) : (i * sz + c) / sz = i ∧ (i * sz + c) % sz = c := by
 have h0 : 0 < sz := by omega
 constructor
 ·rw [Nat.add_comm, Nat.add_mul_div_right _ _ h0, Nat.div_eq_of_lt hc, Nat.zero_add]
 ·rw [Nat.add_comm, Nat.add_mul_mod_self_right, Nat.mod_eq_of_lt hc]
theorem tell_one {W : World} {d : CD} {x : Value} (h : CellD W d x) : ∀ n, ∃ E u, ToldL W n E [u] [(d, x)] := by
 induction h with
 | int => exact told_plain rfl fun _ => .int
 | str => exact told_plain rfl fun _ => .str
 | bool => exact told_plain rfl fun _ => .bool
 | nil => exact told_plain rfl fun _ => .nil (fun x h => by cases h)
 | @sl a cap sz rows f h0 h1 h2 h3 h4 ih =>
  intro n
  rcases Nat.eq_zero_or_pos rows.length with hr0 | hr0
  ·have : rows = [] := List.eq_nil_of_length_eq_zero hr0
   subst this
   exact ⟨[], .slice (some ⟨0, 0, some 0⟩) 0 0, rfl, fun A B _ y hy => (by cases hy), fun A B _ => single_q (R := fun (u : Value) (p : CD × Value) => V1 _ u p.2) .sl0, fun A B _ => single_q (R := fun (u : Value) (p : CD × Value) => p.1.Val _ u) (.nil (fun x h => by cases h; rfl))⟩
  have at_ : ∀ {i c : Nat}, i < rows.length → c < sz → ∃ row d, rows[i]? = some row ∧ row[c]? = some d := fun {i c} hi hc => by
   have hm := h2 rows[i] (List.getElem_mem hi)
   exact ⟨rows[i], rows[i][c]'(by omega), List.getElem?_eq_getElem hi, List.getElem?_eq_getElem (by omega)⟩
  obtain ⟨row0, d0, hr, hd⟩ := at_ hr0 h0
  have hc0 := h3 0 row0 0 d0 hr hd
  rw [Nat.zero_mul, Nat.zero_add] at hc0
  obtain ⟨b, off, spot⟩ := a
  have hsp : spot = none := by
   cases spot with
   | none => rfl
   | some s =>
    simp only [World.cell?, Addr.add] at hc0
    split at hc0
    ·split at hc0 <;> simp_all
    ·cases hc0
  subst hsp
  have hblk : ∃ cs ty fr, W.heap[b]? = some (.cells cs ty fr) := by
   rw [add_none'] at hc0
   simp only [World.cell?] at hc0
   split at hc0
   ·rename_i c t f hh; exact ⟨c, t, f, hh⟩
   ·cases hc0
  obtain ⟨cs, ty, fr, hh⟩ := hblk
  obtain ⟨l, hl⟩ : ∃ l : List (CD × Value), l = (List.range (rows.length * sz)).map fun q => (((rows.getD (q / sz) []).getD (q % sz) (.bool false)), f (q / sz) (q % sz)) := ⟨_, rfl⟩
  have hll : l.length = rows.length * sz := by rw [hl]; simp
  have hlt : ∀ {i c : Nat}, i < rows.length → c < sz → i * sz + c < rows.length * sz := fun {i c} hi hc => by
   have : (i + 1) * sz ≤ rows.length * sz := Nat.mul_le_mul_right _ hi
   rw [Nat.add_mul] at this
   omega
  have hget_l : ∀ {i c : Nat} {row : List CD} {d : CD}, rows[i]? = some row → row[c]? = some d → l[i * sz + c]? = some (d, f i c) := fun {i c row d} hr hd => by
   have hi := (List.getElem?_eq_some_iff.1 hr).1
   have hc : c < sz := by rw [← h2 row (List.mem_of_getElem? hr)]; exact (List.getElem?_eq_some_iff.1 hd).1
   obtain ⟨q1, q2⟩ := div_mod_at (i := i) hc
   rw [hl, List.getElem?_map, List.getElem?_range (hlt hi hc)]
   simp only [Option.map_some, q1, q2, List.getD_eq_getElem?_getD, hr, hd, Option.getD_some]
  have hmem : ∀ q p, l[q]? = some p → ∃ i c row, rows[i]? = some row ∧ row[c]? = some p.1 ∧ p.2 = f i c ∧ q = i * sz + c ∧ c < sz ∧ i < rows.length := fun q p hq => by
   have hql : q < rows.length * sz := by rw [← hll]; exact (List.getElem?_eq_some_iff.1 hq).1
   have hi : q / sz < rows.length := Nat.div_lt_of_lt_mul (by rw [Nat.mul_comm]; exact hql)
   have hc : q % sz < sz := Nat.mod_lt _ h0
   obtain ⟨row, d, k1, k2⟩ := at_ hi hc
   have e1 : q / sz * sz + q % sz = q := by rw [Nat.mul_comm]; exact Nat.div_add_mod q sz
   have := hget_l k1 k2
   rw [e1, hq] at this
   cases this
   exact ⟨_, _, row, k1, k2, rfl, e1.symm, hc, hi⟩
  obtain ⟨E, us, t⟩ := tell_list l (fun p hp => by
   obtain ⟨q, hq⟩ := List.mem_iff_getElem?.1 hp
   obtain ⟨i, c, row, k1, k2, k3, _⟩ := hmem q p hq
   have := ih i row c p.1 k1 k2
   rw [← k3] at this
   exact this) (n + 1)
  have e1 : ∀ (A B : List (Ent × Blk)), A ++ ((((⟨b, off, 0, none⟩ : Ent), (⟨us, ty, none⟩ : Blk)) :: E) ++ B) = (A ++ [((⟨b, off, 0, none⟩ : Ent), (⟨us, ty, none⟩ : Blk))]) ++ (E ++ B) := fun A B => by simp
  have hAl : ∀ (A : List (Ent × Blk)), A.length = n → (A ++ [((⟨b, off, 0, none⟩ : Ent), (⟨us, ty, none⟩ : Blk))]).length = n + 1 := fun A h => by simp [h]
  have hat : ∀ (A B : List (Ent × Blk)), A.length = n → (A ++ ((((⟨b, off, 0, none⟩ : Ent), (⟨us, ty, none⟩ : Blk)) :: E) ++ B))[n]? = some ((⟨b, off, 0, none⟩ : Ent), (⟨us, ty, none⟩ : Blk)) := fun A B h => by
   rw [List.getElem?_append_right (by omega), h, Nat.sub_self]; rfl
  refine ⟨((⟨b, off, 0, none⟩ : Ent), (⟨us, ty, none⟩ : Blk)) :: E, .slice (some ⟨n, 0, none⟩) rows.length rows.length, rfl, fun A B hA x hx => ?_, fun A B hA q u p hq hp => ?_, fun A B hA q u p hq hp => ?_⟩
  ·rcases List.mem_cons.1 hx with rfl | hx
   ·refine ⟨(Array.getElem?_eq_some_iff.1 hh).1, rfl, cs, fr, hh, fun j u hu => ?_⟩
    have hj : j < l.length := by rw [← t.len]; exact (List.getElem?_eq_some_iff.1 hu).1
    obtain ⟨p, hp⟩ : ∃ p, l[j]? = some p := ⟨_, List.getElem?_eq_getElem hj⟩
    obtain ⟨i, c, row, k1, k2, k3, k4, k5, k6⟩ := hmem j p hp
    have hcell := h3 i row c p.1 k1 k2
    rw [add_none', ← k4, ← k3] at hcell
    simp only [World.cell?, hh] at hcell
    refine ⟨p.2, by simpa using hcell, ?_⟩
    rw [e1]
    exact t.rel _ B (hAl A hA) j u p hu hp
   ·rw [e1]
    exact t.ro _ B (hAl A hA) x hx
  ·cases q with
   | succ q => simp at hq
   | zero =>
    cases hq; cases hp
    have := V1.sl (m := (A ++ ((((⟨b, off, 0, none⟩ : Ent), (⟨us, ty, none⟩ : Blk)) :: E) ++ B)).map (·.1)) (i := n) (off := 0) (len := rows.length) (c := cap) (e := ⟨b, off, 0, none⟩) (by rw [List.getElem?_map, hat A B hA]; rfl) h1 (fun _ s hs => by cases hs)
    exact this
  ·cases q with
   | succ q => simp at hq
   | zero =>
    cases hq; cases hp
    refine .sl (sz := sz) (j := n) (k := ⟨us, ty, none⟩) ?_ (by show _ ≤ us.length; rw [t.len, hll]; exact Nat.le_refl _) h2 (fun i row c d x hi hc hx => ?_)
    ·unfold hget
     rw [List.getElem?_map, hat A B hA]
     rfl
    ·have := t.val _ B (hAl A hA) (i * sz + c) x (d, f i c) hx (hget_l hi hc)
     rwa [← e1] at this
theorem tell_cells {W : World} {ds : List CD} {cs : List Value} (h : CellL W ds cs) (n : Nat) : ∃ E us, ToldL W n E us (ds.zip cs) := by
 refine tell_list _ (fun p hp => ?_) n
 obtain ⟨q, hq⟩ := List.mem_iff_getElem?.1 hp
 rw [List.getElem?_zip_eq_some] at hq
 obtain ⟨d, x⟩ := p
 exact tell_one (h.2 q d x hq.1 hq.2)
theorem ToldL.valL {W : World} {n : Nat} {E : List (Ent × Blk)} {us : List Value} {ds : List CD} {cs : List Value} (h : ToldL W n E us (ds.zip cs)) (hc : CellL W ds cs) {A B : List (Ent × Blk)} (hA : A.length = n) : ValL ((A ++ (E ++ B)).map fun x => some x.2) ds us := by
 have hl : us.length = ds.length := by rw [h.len, List.length_zip, hc.1, Nat.min_self]
 refine ⟨hl, fun c d u h1 h2 => ?_⟩
 have hcl : c < cs.length := by rw [hc.1]; exact (List.getElem?_eq_some_iff.1 h1).1
 exact h.val A B hA c u (d, cs[c]) h2 (by rw [List.getElem?_zip_eq_some]; exact ⟨h1, List.getElem?_eq_getElem hcl⟩)
theorem ToldL.vOne {W : World} {n : Nat} {E : List (Ent × Blk)} {us : List Value} {ds : List CD} {x : Value} (h : ToldL W n E us (ds.zip [x])) (hc : CellL W ds [x]) {A B : List (Ent × Blk)} (hA : A.length = n) : ∃ u, us = [u] ∧ V ((A ++ (E ++ B)).map (·.1)) u x := by
 have hd := hc.1
 simp only [List.length_singleton] at hd
 have hl : us.length = 1 := by rw [h.len, List.length_zip, ← hd]; rfl
 match us, hl, h with
 | [u], _, h =>
  obtain ⟨d, rfl⟩ : ∃ d, ds = [d] := List.length_eq_one_iff.1 hd.symm
  exact ⟨u, rfl, .one (h.rel A B hA 0 u (d, x) rfl rfl)⟩
section
variable {P : Program} {W : World} {H : Type} {enc : TypeId × Value → H}
theorem open_deep {base : Nat} {sp : Nat → Bool} {hd : Bool} {t : TypeId} {v : Value} {d : DataW H} {p : List MemPlace} (n : Nat) {ks : List CK} (hk : kindsN P n t = some ks) (h : DataW.Trod enc P W base sp hd t v d p) : ∃ ds, OkL ks ds ∧ CellL W ds v.cells.toList := by
 obtain ⟨fuel, hf⟩ := h
 exact open_cells fuel n t ks _ _ hk hf
theorem slice_of {r : Reach} {b0 : Nat} {t e : TypeId} {v : Value} (ht : P.underlying t = some (.slice e)) (hv : Value.okWide P W r b0 t v) : v.cells.toList = [v] := by
 obtain ⟨a0, l0, c0, rfl⟩ := okWide_slice ht hv
 rfl
end
theorem rows_of {β : Type} {f : β → List CD} {R : β → Prop} : ∀ (rows : List (List CD)), (∀ row ∈ rows, ∃ z, row = f z ∧ R z) → ∃ zs : List β, rows = zs.map f ∧ ∀ z ∈ zs, R z
 | [], _ => ⟨[], rfl, fun z hz => by cases hz⟩
 | row :: rows, h => by
  obtain ⟨z, rfl, hz⟩ := h row (by simp)
  obtain ⟨zs, rfl, hzs⟩ := rows_of rows (fun r hr => h r (by simp [hr]))
  exact ⟨z :: zs, rfl, fun y hy => by
   rcases List.mem_cons.1 hy with rfl | hy
   ·exact hz
   ·exact hzs y hy⟩
theorem ok_sl {ks : List CK} {d : CD} (h : CD.Ok (.sl ks) d) : ∃ rows, d = .sl rows ∧ rows.length ≤ maxLen ∧ ∀ row ∈ rows, OkL ks row := by
 cases h with
 | sl h1 h2 h3 => exact ⟨_, rfl, h1, fun row hr => ⟨h2 row hr, h3 row hr⟩⟩
theorem ok_int {k : IntKind} {d : CD} (h : CD.Ok (.int k) d) : ∃ z, d = .int k z ∧ (Lit.int k z).wf = true := by
 cases h with
 | int h => exact ⟨_, rfl, h⟩
theorem ok_str {d : CD} (h : CD.Ok .str d) : ∃ s, d = .str s ∧ s.size ≤ maxLen := by
 cases h with
 | str h => exact ⟨_, rfl, h⟩
theorem OkL.nil {ds : List CD} (h : OkL [] ds) : ds = [] := List.eq_nil_of_length_eq_zero h.1
theorem OkL.cons {k : CK} {ks : List CK} {ds : List CD} (h : OkL (k :: ks) ds) : ∃ d r, ds = d :: r ∧ CD.Ok k d ∧ OkL ks r := by
 obtain ⟨h1, h2⟩ := h
 cases ds with
 | nil => cases h1
 | cons d r => exact ⟨d, r, rfl, h2 0 k d rfl rfl, by simpa using h1, fun c k d hk hd => h2 (c + 1) k d (by simpa using hk) (by simpa using hd)⟩
theorem OkL.split {a b : List CK} {ds : List CD} (h : OkL (a ++ b) ds) : ∃ x y, ds = x ++ y ∧ OkL a x ∧ OkL b y := by
 obtain ⟨h1, h2⟩ := h
 rw [List.length_append] at h1
 refine ⟨ds.take a.length, ds.drop a.length, (List.take_append_drop _ _).symm, ⟨by rw [List.length_take]; omega, fun c k d hk hd => ?_⟩, ⟨by rw [List.length_drop]; omega, fun c k d hk hd => ?_⟩⟩
 ·have hc := (List.getElem?_eq_some_iff.1 hk).1
  rw [List.getElem?_take_of_lt hc] at hd
  exact h2 c k d (by rw [List.getElem?_append_left hc]; exact hk) hd
 ·rw [List.getElem?_drop] at hd
  exact h2 (a.length + c) k d (by rw [List.getElem?_append_right (by omega), Nat.add_sub_cancel_left]; exact hk) hd
theorem OkL.ints {k : IntKind} : ∀ {n : Nat} {ds : List CD}, OkL (List.replicate n (.int k)) ds → ∃ zs : List Int, ds = zs.map (.int k) ∧ zs.length = n ∧ ∀ z ∈ zs, (Lit.int k z).wf = true
 | 0, ds, h => ⟨[], h.nil, rfl, fun z hz => by cases hz⟩
 | n + 1, ds, h => by
  rw [List.replicate_succ] at h
  obtain ⟨d, r, rfl, hd, hr⟩ := h.cons
  obtain ⟨z, rfl, hz⟩ := ok_int hd
  obtain ⟨zs, rfl, hl, hzs⟩ := OkL.ints hr
  exact ⟨z :: zs, rfl, by simp [hl], fun y hy => by
   rcases List.mem_cons.1 hy with rfl | hy
   ·exact hz
   ·exact hzs y hy⟩
theorem ok_ints {k : IntKind} {d : CD} (h : CD.Ok (.sl [.int k]) d) : ∃ zs : List Int, d = .sl (zs.map fun z => [.int k z]) ∧ (∀ z ∈ zs, (Lit.int k z).wf = true) ∧ zs.length ≤ maxLen := by
 obtain ⟨rows, rfl, hm, hr⟩ := ok_sl h
 obtain ⟨zs, rfl, hz⟩ := rows_of (f := fun z => [CD.int k z]) (R := fun z => (Lit.int k z).wf = true) rows (fun row hrow => by
  obtain ⟨d, r, rfl, hd, hr'⟩ := (hr row hrow).cons
  obtain rfl := hr'.nil
  obtain ⟨z, rfl, hz⟩ := ok_int hd
  exact ⟨z, rfl, hz⟩)
 exact ⟨zs, rfl, hz, by simpa using hm⟩
theorem val_int {H : AH} {k : IntKind} {z : Int} {v : Value} (h : CD.Val H (.int k z) v) : v = .int k z := by cases h; rfl
theorem val_str {H : AH} {s : ByteArray} {v : Value} (h : CD.Val H (.str s) v) : v = .string s := by cases h; rfl
theorem val_len {P : Program} {H : AH} {rows : List (List CD)} {v : Value} {t e : TypeId} (h : CD.Val H (.sl rows) v) (ht : und P t = .slice e) : xlen P t v = some (.int .i64 rows.length) := by
 cases h with
 | nil => simp [xlen, ht]
 | sl _ _ _ _ => simp [xlen, ht]
theorem val_nt {H : AH} {rows : List (List CD)} {v : Value} (h : CD.Val H (.sl rows) v) : notTuple v = true ∧ v.cells = #[v] := by
 cases h <;> exact ⟨rfl, rfl⟩
theorem val_at {P : Program} {H : AH} {rows : List (List CD)} {v : Value} {t e : TypeId} {sz : Nat} (h : CD.Val H (.sl rows) v) (ht : und P t = .slice e) (hs : szt P e = sz) (h0 : 0 < sz) (hl : ∀ row ∈ rows, row.length = sz) {i : Nat} {row : List CD} (hi : rows[i]? = some row) :
  ∃ j b us, v = .slice (some ⟨j, 0, none⟩) rows.length rows.length ∧ hget H j = some b ∧ rows.length * sz ≤ b.cells.length ∧ xindexAddr P t v (.int .i64 (i : Nat)) = some (.pointer (some ⟨j, i * sz, none⟩)) ∧
   us = (b.cells.drop (i * sz)).take sz ∧ us.length = sz ∧ i * sz + sz ≤ b.cells.length ∧ (∀ c, c < sz → b.cells[i * sz + c]? = us[c]?) ∧ ValL H row us := by
 have hil := (List.getElem?_eq_some_iff.1 hi).1
 have hrl := hl row (List.mem_of_getElem? hi)
 cases h with
 | nil => simp at hi
 | @sl sz' j b _ h1 h2 h3 h4 =>
  have hsz : sz' = sz := (h3 row (List.mem_of_getElem? hi)).symm.trans hrl
  subst hsz
  have h7 : (i + 1) * sz' ≤ rows.length * sz' := Nat.mul_le_mul_right _ hil
  rw [Nat.add_mul] at h7
  refine ⟨j, b, (b.cells.drop (i * sz')).take sz', rfl, h1, h2, ?_, rfl, by rw [List.length_take, List.length_drop]; omega, by omega, fun c hc => ?_, ⟨by rw [List.length_take, List.length_drop, hrl]; omega, fun c d u hd hu => ?_⟩⟩
  ·unfold xindexAddr
   simp only [ht, hs]
   rw [if_pos ⟨by omega, by omega, h0⟩]
   simp
  ·rw [List.getElem?_take_of_lt hc, List.getElem?_drop]
  ·have hc : c < sz' := by rw [← hrl]; exact (List.getElem?_eq_some_iff.1 hd).1
   rw [List.getElem?_take_of_lt hc, List.getElem?_drop] at hu
   exact h4 i row c d u hi hd hu
theorem load_at {P : Program} {G : AH} {e : TypeId} {sz i j : Nat} {b : Blk} {us : List Value} (hb : hget G j = some b) (hs : szt P e = sz) (h0 : 0 < sz) (hd : isAggD (und P e) = true) (hu : us = (b.cells.drop (i * sz)).take sz) (hle : i * sz + sz ≤ b.cells.length) :
  xload P e (.pointer (some ⟨j, i * sz, none⟩)) G = some (.agg us.toArray) := by
 unfold xload
 simp only [hb, hd, hs, if_true]
 rw [if_pos ⟨h0, hle⟩, hu]
theorem ValL.cons {H : AH} {d : CD} {ds : List CD} {us : List Value} (h : ValL H (d :: ds) us) : ∃ u r, us = u :: r ∧ CD.Val H d u ∧ ValL H ds r := by
 obtain ⟨h1, h2⟩ := h
 cases us with
 | nil => cases h1
 | cons u r => exact ⟨u, r, rfl, h2 0 d u rfl rfl, by simpa using h1, fun c d u hd hu => h2 (c + 1) d u (by simpa using hd) (by simpa using hu)⟩
theorem ValL.nil {H : AH} {us : List Value} (h : ValL H [] us) : us = [] := List.eq_nil_of_length_eq_zero h.1
theorem ValL.split {H : AH} {a b : List CD} {us : List Value} (h : ValL H (a ++ b) us) : ∃ x y, us = x ++ y ∧ ValL H a x ∧ ValL H b y := by
 obtain ⟨h1, h2⟩ := h
 rw [List.length_append] at h1
 refine ⟨us.take a.length, us.drop a.length, (List.take_append_drop _ _).symm, ⟨by rw [List.length_take]; omega, fun c d u hd hu => ?_⟩, ⟨by rw [List.length_drop]; omega, fun c d u hd hu => ?_⟩⟩
 ·have hc := (List.getElem?_eq_some_iff.1 hd).1
  rw [List.getElem?_take_of_lt hc] at hu
  exact h2 c d u (by rw [List.getElem?_append_left hc]; exact hd) hu
 ·rw [List.getElem?_drop] at hu
  exact h2 (a.length + c) d u (by rw [List.getElem?_append_right (by omega), Nat.add_sub_cancel_left]; exact hd) hu
theorem ValL.ints {H : AH} {k : IntKind} : ∀ {zs : List Int} {us : List Value}, ValL H (zs.map (.int k)) us → us = iv k zs
 | [], us, h => h.nil
 | z :: zs, us, h => by
  obtain ⟨u, r, rfl, hu, hr⟩ := ValL.cons h
  rw [val_int hu, ValL.ints hr]
  rfl
end
section
theorem set_next (A : List Int) (n i : Nat) (hn : A.length = n) (hi : i < n) : (A.take i ++ zl (n - i)).set i (A.getD i 0) = A.take (i + 1) ++ zl (n - (i + 1)) := by
 have hl : (A.take i).length = i := by rw [List.length_take]; omega
 have hz : zl (n - i) = 0 :: zl (n - (i + 1)) := by
  unfold zl
  rw [show n - i = (n - (i + 1)) + 1 by omega, List.replicate_succ]
 rw [List.set_append_right _ _ (by omega), hl, Nat.sub_self, hz, List.set_cons_zero, List.take_add_one, List.getElem?_eq_getElem (by omega), List.getD_eq_getElem?_getD, List.getElem?_eq_getElem (by omega)]
 simp only [Option.toList_some, Option.getD_some, List.append_assoc, List.cons_append, List.nil_append]
theorem fill_len (A : List Int) (n i : Nat) (hn : A.length = n) (hi : i ≤ n) : (A.take i ++ zl (n - i)).length = n := by
 rw [List.length_append, List.length_take, zl_length]; omega
end
section
def behind (i : Nat) : List (List Nat) → List (List Nat)
 | [] => []
 | (j :: l) :: os => if j = i then l :: behind i os else behind i os
 | [] :: os => behind i os
def ordersB (ops : Array Oper) : Nat → Array Bool → List (List Nat) → Bool
 | 0, listed, os => (Region.ready .any ops listed).isEmpty && os.contains []
 | f + 1, listed, os => !(Region.ready .any ops listed).isEmpty && (Region.ready .any ops listed).all fun i => ordersB ops f (listed.setIfInBounds i true) (behind i os)
theorem behind_mem {i : Nat} {o : List Nat} : ∀ {os : List (List Nat)}, o ∈ behind i os → (i :: o) ∈ os
 | [] :: os, h => by simp only [behind] at h; exact List.mem_cons_of_mem _ (behind_mem h)
 | (j :: l) :: os, h => by
  simp only [behind] at h
  split at h
  ·rename_i e
   subst e
   rcases List.mem_cons.1 h with rfl | h
   ·exact List.mem_cons_self
   ·exact List.mem_cons_of_mem _ (behind_mem h)
  ·exact List.mem_cons_of_mem _ (behind_mem h)
section
variable {P : Program} {nro n base : Nat} {γ : Nat → Option Nat} {m : List Ent} {H : AH} {α : Fm} {a : Act} {w : World} {Q : Exit → Fm → AH → Prop} {ops : Array Oper}
theorem orders_ne {ops : Array Oper} : ∀ (f : Nat) (listed : Array Bool) (os : List (List Nat)), ordersB ops f listed os = true → ∃ o, o ∈ os
 | 0, listed, os, h => by simp only [ordersB, Bool.and_eq_true, List.contains_iff_mem] at h; exact ⟨_, h.2⟩
 | f + 1, listed, os, h => by
  simp only [ordersB, Bool.and_eq_true] at h
  cases hr : Region.ready .any ops listed with
  | nil => rw [hr] at h; simp at h
  | cons i rs =>
   rw [hr] at h
   simp only [List.all_cons, Bool.and_eq_true] at h
   obtain ⟨o, ho⟩ := orders_ne f _ _ h.2.1
   exact ⟨_, behind_mem ho⟩
end
end
section
open Go Go.Proofs Go.Shelf Go.RowKit
section
variable {P : Program} {ρ : Ren} {nro base : Nat} {γ : Nat → Option Nat} {m : List Ent} {H : AH} {w : World}
theorem lies_one {e : TypeId} {s : Nat} (hc : P.cellsOf e = s) (h0 : s ≠ 0) (count : Nat) (hn : 1 ≤ count) : liesAt P P.depth e count 0 e 1 = true := by
 have hd : P.depth = (2 * (P.types.size + Made.depth) + 1) + 1 := rfl
 rw [hd]
 simp only [liesAt, Bool.or_eq_true]
 left
 rw [hd]
 simp [rowAt, hc, h0, hn, sameLayout]
set_option maxHeartbeats 1000000 in
set_option maxRecDepth 100000 in
theorem check_fresh (L : Lays.n240 P ρ) (X : Builder.X72 P ρ) (b n : Nat) (w : World) (h0 : w.cell? ⟨b, 0, none⟩ = some (.pointer none)) (hsh : w.shape? b = some ((ρ.t 72), n)) (hn : 2 ≤ n) (hfz : w.frozen? ⟨b, 0, none⟩ = false) :
  Calls P (ρ.f 240) #[.pointer (some ⟨b, 0, none⟩)] w fun e w' => e = .returned (.tuple #[]) ∧ w' = w.setCell ⟨b, 0, none⟩ (.pointer (some ⟨b, 0, none⟩)) := by
 obtain ⟨j, hj, hjs⟩ := Option.map_eq_some_iff.1 X.sizeBuilder
 have hc2 : P.cellsOf (ρ.t 72) = 2 := by simp [Program.cellsOf, hj, hjs]
 have hlies := lies_one (P := P) hc2 (by omega) (n / P.cellsOf (ρ.t 72)) (by rw [hc2]; omega)
 have mixed := L.mixed
 have t72 := L.t72; have a72 := L.a72; have z72 := L.z72; have v72 := L.v72; have u72 := run_underlying L.t72
 have t70 := L.t70; have a70 := L.a70; have z70 := L.z70; have v70 := L.v70; have u70 := run_underlying L.t70
 have t9 := L.t9; have a9 := L.a9; have z9 := L.z9; have v9 := L.v9; have u9 := run_underlying L.t9
 have t4 := L.t4; have a4 := L.a4; have z4 := L.z4; have v4 := L.v4; have u4 := run_underlying L.t4
 have t164 := L.t164; have a164 := L.a164; have z164 := L.z164; have v164 := L.v164; have u164 := run_underlying L.t164
 go_enter L.f240, Body.n240_ntmps ρ
 go_wp2
 rw [Lib.run_to_unsafe w ⟨b, 0, none⟩ L.t70 L.t164 hj (by rw [hjs]; decide) hsh (show 0 < n by omega)]
 simp only [Result.andThen]
 rw [Oper.upon_value]
 go_wp2
 rw [run_callFunc_extern L.f276 (by kernel_rfl) (by kernel_rfl) (by kernel_rfl) (e := Extern.AbiNoEscape.same) (by kernel_rfl)]
 rw [Lib.run_noEscape]
 simp only [Result.andThen]
 rw [Oper.upon_value]
 go_wp2
 rw [Lib.run_from_unsafe w ⟨b, 0, none⟩ L.t164 L.t70 hj hsh hlies]
 simp only [Result.andThen]
 rw [Oper.upon_value]
 go_wp2
 go_end0
 exact ⟨rfl, rfl⟩
set_option maxHeartbeats 1000000 in
set_option maxRecDepth 100000 in
theorem string_row (L : Lays.n169 P ρ) (X : Builder.Extra P ρ) (b g cap n : Nat) (l : List UInt8) (w : World) (h0 : l ≠ []) (hb : w.cell? ⟨b, 1, none⟩ = some (.slice (some ⟨g, 0, none⟩) l.length cap)) (hlc : l.length ≤ cap) (hsh : w.shape? g = some (ρ.t 5, n)) (hn : l.length ≤ n)
  (h63 : l.length ≤ 9223372036854775807) (hcell : ∀ j x, l[j]? = some x → w.cell? ((⟨g, 0, none⟩ : Addr).add j) = some (.int .u8 x.toNat)) :
  Calls P (ρ.f 169) #[.pointer (some ⟨b, 0, none⟩)] w fun e w' => e = .returned (.string ⟨l.toArray⟩) ∧ w' = w.drew.freeze ⟨g, 0, none⟩ l.length := by
 have hl0 : l.length ≠ 0 := by simpa using h0
 have c1 : w.drew.cell? ⟨b, 1, none⟩ = some (.slice (some ⟨g, 0, none⟩) l.length cap) := hb
 have hSD : (Builtin.unsafeSliceData_ #[(ρ.t 37)] (ρ.t 127) #[.slice (some ⟨g, 0, none⟩) l.length cap]).run P w.drew = .ok (.pointer (some ⟨g, 0, none⟩)) w.drew :=
  Lib.run_unsafeSliceData_row _ _ _ _ _ _ (by omega)
 have hUS : (Builtin.unsafeString_ #[(ρ.t 127), (ρ.t 3)] (ρ.t 9) #[.pointer (some ⟨g, 0, none⟩), .int .i64 l.length]).run P w.drew = .ok (.string ⟨l.toArray⟩) (w.drew.freeze ⟨g, 0, none⟩ l.length) :=
  Lib.run_unsafeString_row w.drew (ρ.t 127) (ρ.t 3) (ρ.t 9) (ρ.t 5) L.t127 X.cellsByte g n hsh l h0 hn h63 hcell
 have mixed := L.mixed
 have t72 := L.t72; have a72 := L.a72; have z72 := L.z72; have v72 := L.v72; have u72 := run_underlying L.t72
 have t70 := L.t70; have a70 := L.a70; have z70 := L.z70; have v70 := L.v70; have u70 := run_underlying L.t70
 have t37 := L.t37; have a37 := L.a37; have z37 := L.z37; have v37 := L.v37; have u37 := run_underlying L.t37
 have t127 := L.t127; have a127 := L.a127; have z127 := L.z127; have v127 := L.v127; have u127 := run_underlying L.t127
 have t3 := L.t3; have a3 := L.a3; have z3 := L.z3; have v3 := L.v3; have u3 := run_underlying L.t3
 have t9 := L.t9; have a9 := L.a9; have z9 := L.z9; have v9 := L.v9; have u9 := run_underlying L.t9
 have t5 := X.t5; have a5 := X.a5; have z5 := X.z5; have v5 := X.v5; have u5 := run_underlying X.t5
 go_enter L.f169, Body.n169_ntmps ρ
 go_wp2
 go_region_o
 all_goals (go_wp2; go_ret; exact ⟨rfl, rfl⟩)
set_option maxHeartbeats 2000000 in
set_option maxRecDepth 100000 in
theorem string_nil (L : Lays.n169 P ρ) (X : Builder.Extra P ρ) (b : Nat) (w : World) (hb : w.cell? ⟨b, 1, none⟩ = some (.slice none 0 0)) :
  Calls P (ρ.f 169) #[.pointer (some ⟨b, 0, none⟩)] w fun e w' => e = .returned (.string ⟨#[]⟩) ∧ w' = w.drew := by
 have hUS := Any.unsafeString_none L X
 have c1 : w.drew.cell? ⟨b, 1, none⟩ = some (.slice none 0 0) := hb
 have hSD : (Builtin.unsafeSliceData_ #[(ρ.t 37)] (ρ.t 127) #[.slice none 0 0]).run P w.drew = .ok (.pointer none) w.drew := rfl
 have mixed := L.mixed
 have t72 := L.t72; have a72 := L.a72; have z72 := L.z72; have v72 := L.v72; have u72 := run_underlying L.t72
 have t70 := L.t70; have a70 := L.a70; have z70 := L.z70; have v70 := L.v70; have u70 := run_underlying L.t70
 have t37 := L.t37; have a37 := L.a37; have z37 := L.z37; have v37 := L.v37; have u37 := run_underlying L.t37
 have t127 := L.t127; have a127 := L.a127; have z127 := L.z127; have v127 := L.v127; have u127 := run_underlying L.t127
 have t3 := L.t3; have a3 := L.a3; have z3 := L.z3; have v3 := L.v3; have u3 := run_underlying L.t3
 have t9 := L.t9; have a9 := L.a9; have z9 := L.z9; have v9 := L.v9; have u9 := run_underlying L.t9
 have t5 := X.t5; have a5 := X.a5; have z5 := X.z5; have v5 := X.v5; have u5 := run_underlying X.t5
 go_enter L.f169, Body.n169_ntmps ρ
 go_wp2
 go_region_o
 all_goals (go_wp2; go_ret; exact ⟨rfl, rfl⟩)
theorem one_arg {args' : Array Value} {y : Value} (h : args'.size = 1) (hy : args'[0]? = some y) : args' = #[y] := by
 apply Array.ext_getElem?
 intro k
 match k with
 | 0 => rw [hy]; rfl
 | k + 1 => rw [Array.getElem?_eq_none (by omega), Array.getElem?_eq_none (by simp)]
theorem Rel.killed (hR : Rel nro base γ m H w) {j : Nat} {k : Blk} {e : Ent} (hj : nro ≤ j) (hk : hget H j = some k) (he : m[j]? = some e) {w' : World} (hsz : w'.heap.size = w.heap.size) (hold : ∀ b, b ≠ e.b → w'.heap[b]? = w.heap[b]?) :
  Rel nro base γ m (H.set j none) w' := by
 have hs : ∀ (i : Nat) (k : Blk), (H.set j none)[i]? = some (some k) → H[i]? = some (some k) ∧ i ≠ j := by
  intro i k h
  by_cases e : j = i
  ·subst e
   rcases Nat.lt_or_ge j H.length with hl | hl
   ·rw [List.getElem?_set_self hl] at h; cases h
   ·rw [List.getElem?_eq_none (by simpa using hl)] at h; cases h
  ·rw [List.getElem?_set_ne e] at h; exact ⟨h, Ne.symm e⟩
 refine ⟨by simp [hR.len], by simpa using hR.le, by rw [hsz]; exact hR.base_le, fun i e' he' => by rw [hsz]; exact hR.inb i e' he', hR.ro, hR.own, fun i q e' l hq hl he' => ?_, fun i q e' hq hqm he' => ?_,
  fun i' j ki kj ei ej hi hj hne hki hkj hei hej => hR.apart i' j ki kj ei ej hi hj hne (hs _ _ hki).1 (hs _ _ hkj).1 hei hej,
  hR.globs (Nat.le_refl _) (fun _ _ h => h) (fun i k _ h => (hs i k h).1) (fun i k e' hi _ he' => hold _ (by have := hR.ro i e' hi he'; have := (hR.own j e hj he).1; omega))⟩
 all_goals
  obtain ⟨hq, hne⟩ := hs i q hq
  have hb : e'.b ≠ e.b := by
   rcases Nat.lt_or_ge i nro with hi | hi
   ·have := hR.ro i e' hi he'; have := (hR.own j e hj he).1; omega
   ·exact hR.apart i j q k e' e hi hj hne hq (hget_some hk) he' he
 ·obtain ⟨h1, h2, h3, es, cl, h4, h5⟩ := hR.maps i q e' l hq hl he'
  exact ⟨h1, h2, h3, es, cl, (hold _ hb).trans h4, h5⟩
 ·obtain ⟨cs, fr, h1, h2⟩ := hR.cells i q e' hq hqm he'
  exact ⟨cs, fr, (hold _ hb).trans h1, h2⟩
theorem check_used_ac (L : Lays.n240 P ρ) (X : Builder.X72 P ρ) {i : Nat} {v : Value} {T : TypeId} {es : Option Nat} (hi : nro ≤ i) (hb : hget H i = some ⟨[.pointer (some ⟨i, 0, none⟩), v], T, es⟩) :
  AC P nro γ (ρ.f 240) #[.pointer (some ⟨i, 0, none⟩)] H (fun v' H' => v' = .tuple #[] ∧ H' = H) := by
 intro m base w args' hR hsz hva
 obtain ⟨y0, hy0, hv0⟩ := hva 0 _ rfl
 obtain rfl := one_arg hsz hy0
 obtain ⟨e, he, rfl⟩ := hv0.ptr_
 have ho := hR.own i e hi he
 obtain ⟨y, hy, hvy⟩ := hR.cell hb he (off := 0) (x := .pointer (some ⟨i, 0, none⟩)) rfl
 obtain ⟨e2, he2, rfl⟩ := (V.one hvy).ptr_
 rw [he] at he2
 cases he2
 rw [ho.2] at hy ⊢
 refine .inl ⟨by simp only [bodied, L.f240]; rfl, (Any.Builder_copyCheck_used L X e.b w hy).mono ?_⟩
 rintro e' w' ⟨rfl, rfl⟩
 exact ⟨m, .tuple #[], .tuple #[], H, rfl, List.prefix_rfl, plainV_mk (by simp [plainV]), hR, .refl _ _, rfl, rfl⟩
theorem check_fresh_ac (L : Lays.n240 P ρ) (X : Builder.X72 P ρ) {i : Nat} {v : Value} {es : Option Nat} (hi : nro ≤ i) (hb : hget H i = some ⟨[.pointer none, v], ρ.t 72, es⟩) :
  AC P nro γ (ρ.f 240) #[.pointer (some ⟨i, 0, none⟩)] H (fun v' H' => v' = .tuple #[] ∧ H' = H.set i (some ⟨[.pointer (some ⟨i, 0, none⟩), v], ρ.t 72, es⟩)) := by
 intro m base w args' hR hsz hva
 obtain ⟨y0, hy0, hv0⟩ := hva 0 _ rfl
 obtain rfl := one_arg hsz hy0
 have hv0' := hv0
 obtain ⟨e, he, rfl⟩ := hv0.ptr_
 have ho := hR.own i e hi he
 obtain ⟨cs, fr, h1, h2, h3, h4, h5⟩ := hR.cells i _ e (hget_some hb) rfl he
 obtain ⟨z, hz, hvz⟩ := h5 0 (.pointer none) rfl
 have := (V.one hvz).eq rfl
 subst this
 obtain ⟨z1, hz1, _⟩ := h5 1 v rfl
 rw [ho.2] at hz hz1 hv0' ⊢
 have hlt : 1 < cs.size := by
  have := (Array.getElem?_eq_some_iff.1 hz1).1
  omega
 have hcell : w.cell? ⟨e.b, 0, none⟩ = some (.pointer none) := by simp [World.cell?, h1]; simpa using hz
 have hfz : w.frozen? ⟨e.b, 0, none⟩ = false := by
  have := (h4 hi).1 0 (by omega)
  simp only [World.frozen?, h1]
  simp only [Bool.and_eq_false_iff, decide_eq_false_iff_not]
  omega
 obtain ⟨w', r1, r2, r3⟩ := storeCells_rel (P := P) hi he [.pointer (some ⟨i, 0, none⟩)] [.pointer (some ⟨e.b, 0, none⟩)] 0 0 H w _ ⟨rfl, fun q x hx => by
  cases q with
  | zero => cases hx; exact ⟨_, rfl, by have := V1.ptr (m := m) (i := i) (off := 0) he; rw [ho.2] at this; exact this⟩
  | succ q => simp at hx⟩ hR (hget_some hb) (by simp)
 have hst : (store ((⟨e.b, 0, none⟩ : Addr).add 0) (.pointer (some ⟨e.b, 0, none⟩))).run P w = .ok () (w.setCell ⟨e.b, 0, none⟩ (.pointer (some ⟨e.b, 0, none⟩))) := by
  rw [add_none, run_store P w _ _ _ rfl]
  simp [hcell, hfz]
 have hrun : (storeCells ⟨e.b, 0, none⟩ [.pointer (some ⟨e.b, 0, none⟩)] 0).run P w = .ok () (w.setCell ⟨e.b, 0, none⟩ (.pointer (some ⟨e.b, 0, none⟩))) := by
  simp [storeCells, hst]
 rw [hrun] at r1
 cases r1
 refine .inl ⟨by simp only [bodied, L.f240]; rfl, (check_fresh L X e.b cs.size w hcell (by simp [World.shape?, h1]) (by omega) hfz).mono ?_⟩
 rintro e' w' ⟨rfl, rfl⟩
 exact ⟨m, .tuple #[], .tuple #[], _, rfl, List.prefix_rfl, plainV_mk (by simp [plainV]), r2, r3, rfl, rfl⟩
theorem string_ac (L : Lays.n169 P ρ) (X : Builder.Extra P ρ) {i j len : Nat} {p : Value} {T : TypeId} {es : Option Nat} {s : ByteArray} (hi : nro ≤ i) (hb : hget H i = some ⟨[p, .slice (some ⟨j, 0, none⟩) len len], T, es⟩) (hj : nro ≤ j)
  (hk : hget H j = some ⟨iv .u8 (nums s), ρ.t 5, some 1⟩) (hl : s.size = len) (h0 : len ≠ 0) :
  AC P nro γ (ρ.f 169) #[.pointer (some ⟨i, 0, none⟩)] H (fun v' H' => v' = .string s ∧ H' = H.set j none) := by
 intro m base w args' hR hsz hva
 obtain ⟨y0, hy0, hv0⟩ := hva 0 _ rfl
 obtain rfl := one_arg hsz hy0
 obtain ⟨e, he, rfl⟩ := hv0.ptr_
 have ho := hR.own i e hi he
 obtain ⟨y, hy, hvy⟩ := hR.cell hb he (off := 1) (x := .slice (some ⟨j, 0, none⟩) len len) rfl
 obtain ⟨ej, c', _, hej, hlc, hcap, rfl⟩ := (V.one hvy).sl_
 have hoj := hR.own j ej hj hej
 obtain ⟨cs, fr, g1, g2, g3, g4, g5⟩ := hR.cells j _ ej (hget_some hk) rfl hej
 obtain ⟨hc1, hc2⟩ := hcap rfl 1 g3
 have hcs := g2 hj
 rw [ho.2, hoj.2] at hy
 rw [ho.2]
 have hsl : s.data.toList.length = len := by rw [← hl]; simp
 have := string_row L X e.b ej.b c' cs.size s.data.toList w (by intro h; rw [h] at hsl; exact h0 hsl.symm) (by rw [hsl]; simpa using hy) (by omega) (by simp [World.shape?, g1]) (by rw [hsl]; omega) (by unfold maxLen at hc2; omega) (fun q x hx => by
  obtain ⟨y, hy, hv⟩ := hR.cell hk hej (off := q) (x := .int .u8 x.toNat) (by simp [iv, nums, hx])
  have := hv.eq rfl
  subst this
  rw [hoj.2] at hy
  have e : (⟨ej.b, 0, none⟩ : Addr).add q = ⟨ej.b, 0 + q, none⟩ := by unfold Addr.add; split <;> simp_all
  rw [e, hy])
 refine .inl ⟨by simp only [bodied, L.f169]; rfl, this.mono ?_⟩
 rintro e' w' ⟨rfl, rfl⟩
 have hrel : Rel nro base γ m (H.set j none) (w.drew.freeze ⟨ej.b, 0, none⟩ s.data.toList.length) := by
  refine Rel.killed (hR.drewN 1) hj hk hej ?_ fun b hb => ?_
  ·unfold World.freeze
   split
   ·rfl
   ·show (Array.modify _ _ _).size = _
    rw [Array.size_modify]
    rfl
  ·unfold World.freeze
   split
   ·rfl
   ·simp only [Array.getElem?_modify]
    rw [if_neg (fun h => hb h.symm)]
    rfl
 exact ⟨m, .string s, .string s, _, by simp, List.prefix_rfl, plainV_mk rfl, hrel, Lib.below_freeze (Below.drew (Below.refl base w)) (p := ⟨ej.b, 0, none⟩) hoj.1 _, rfl, rfl⟩
theorem string_nil_ac (L : Lays.n169 P ρ) (X : Builder.Extra P ρ) {i : Nat} {p : Value} {T : TypeId} {es : Option Nat} (hi : nro ≤ i) (hb : hget H i = some ⟨[p, .slice none 0 0], T, es⟩) :
  AC P nro γ (ρ.f 169) #[.pointer (some ⟨i, 0, none⟩)] H (fun v' H' => v' = .string ⟨#[]⟩ ∧ H' = H) := by
 intro m base w args' hR hsz hva
 obtain ⟨y0, hy0, hv0⟩ := hva 0 _ rfl
 obtain rfl := one_arg hsz hy0
 obtain ⟨e, he, rfl⟩ := hv0.ptr_
 have ho := hR.own i e hi he
 obtain ⟨y, hy, hvy⟩ := hR.cell hb he (off := 1) (x := .slice none 0 0) rfl
 have := (V.one hvy).eq rfl
 subst this
 rw [ho.2] at hy ⊢
 refine .inl ⟨by simp only [bodied, L.f169]; rfl, (string_nil L X e.b w (by simpa using hy)).mono ?_⟩
 rintro e' w' ⟨rfl, rfl⟩
 exact ⟨m, .string ⟨#[]⟩, .string ⟨#[]⟩, H, rfl, List.prefix_rfl, plainV_mk rfl, hR.drewN 1, Below.drew (Below.refl base w), rfl, rfl⟩
end
end
section
theorem fr1 {H : AH} {p : Nat} {x : Option Blk} : Fr H (H.set p x) [p] [p] := Fr.mk (by simp) (fun j hj hn => hget_set_ne (by simp at hn; omega)) (fun j hj => .inl hj)
end
section
theorem sn_size (l : List Int) : (strOfNums l).size = l.length := by simp [strOfNums, ByteArray.size]
theorem sn_inj {a b : List Int} (ha : By a) (hb : By b) (h : strOfNums a = strOfNums b) : a = b := by
 rw [← nums_of a ha, h, nums_of b hb]
theorem gb_sn {l : List Int} (h : By l) (i : Nat) : gb (strOfNums l) i = l.getD i 0 := by
 unfold gb
 rw [strOfNums_data, List.getD_eq_getElem?_getD, List.getD_eq_getElem?_getD, List.getElem?_map]
 cases hq : l[i]? with
 | none => rfl
 | some x =>
  have := h x (List.mem_of_getElem? hq)
  simp only [Option.map_some, Option.getD_some, UInt8.toNat_ofNat']
  omega
end
section
section
variable {P : Program} {nro n base base' : Nat} {γ : Nat → Option Nat} {m m' : List Ent} {H H' : AH} {w w' : World} {Q : Value → AH → Prop}
theorem Rel.thaw (h1 : Rel nro base γ m H w') (h2 : Rel H.length base' γ m' H' w') (hm : m <+: m') (hl : ∀ j, j < H.length → hget H' j = hget H j) (hle : H.length ≤ H'.length) (hb : ∀ (i : Nat) (e : Ent), m[i]? = some e → e.b < base') (hbb : base ≤ base') : Rel nro base γ m' H' w' := by
 have hml := h1.len
 have old : ∀ (i : Nat) (e : Ent), i < H.length → m'[i]? = some e → m[i]? = some e := fun i e hi he => by
  obtain ⟨r, rfl⟩ := hm
  rwa [List.getElem?_append_left (by omega)] at he
 have oldH : ∀ (i : Nat) (k : Blk), i < H.length → H'[i]? = some (some k) → H[i]? = some (some k) := fun i k hi hk => by
  have h3 := hl i hi
  unfold hget at h3
  rw [hk, List.getElem?_eq_getElem hi] at h3
  simp at h3
  rw [List.getElem?_eq_getElem hi, ← h3]
 refine ⟨h2.len, Nat.le_trans h1.le hle, h1.base_le, h2.inb, fun i e hi he => h1.ro i e hi (old i e (Nat.lt_of_lt_of_le hi h1.le) he), fun i e hi he => ?_, h2.maps, fun i k e hk hn he => ?_, fun i j ki kj ei ej hi hj hij hki hkj hei hej => ?_,
  h1.globs (Nat.le_refl _) (fun i e h => pre_get hm h) (fun i k hi h => oldH i k (Nat.lt_of_lt_of_le hi h1.le) h) (fun _ _ _ _ _ _ => rfl)⟩
 ·rcases Nat.lt_or_ge i H.length with h | h
  ·exact h1.own i e hi (old i e h he)
  ·have := h2.own i e h he
   exact ⟨by omega, this.2⟩
 ·rcases Nat.lt_or_ge i H.length with h | h
  ·obtain ⟨cs, fr, a, b, c, d, f⟩ := h1.cells i k e (oldH i k h hk) hn (old i e h he)
   refine ⟨cs, fr, a, b, c, d, fun j x hx => ?_⟩
   obtain ⟨y, hy, hv⟩ := f j x hx
   exact ⟨y, hy, hv.mono hm⟩
  ·obtain ⟨cs, fr, a, b, c, d, f⟩ := h2.cells i k e hk hn he
   exact ⟨cs, fr, a, fun _ => b h, c, fun _ => d h, f⟩
 ·rcases Nat.lt_or_ge i H.length with h | h
  ·have e1 := old i ei h hei
   rcases Nat.lt_or_ge j H.length with h' | h'
   ·exact h1.apart i j ki kj ei ej hi hj hij (oldH i ki h hki) (oldH j kj h' hkj) e1 (old j ej h' hej)
   ·have := hb i ei e1
    have := (h2.own j ej h' hej).1
    omega
  ·rcases Nat.lt_or_ge j H.length with h' | h'
   ·have := hb j ej (old j ej h' hej)
    have := (h2.own i ei h hei).1
    omega
   ·exact h2.apart i j ki kj ei ej h h' hij hki hkj hei hej
theorem AC.thaw {f : FuncId} {args : Array Value} (h : AC P H.length γ f args H Q) (hq : ∀ v H', Q v H' → H.length ≤ H'.length ∧ ∀ j, j < H.length → hget H' j = hget H j) : AC P nro γ f args H Q := by
 intro m base w args' hR hsz hva
 refine (h m w.heap.size w args' hR.freeze hsz hva).mono ?_
 rintro e w' ⟨m', v1, v', H', rfl, hm, hv', hR', hb, hQ⟩
 obtain ⟨h1, h2⟩ := hq _ _ hQ
 exact ⟨m', v1, v', H', rfl, hm, hv', (hR.below hb).thaw hR' hm h2 h1 hR.inb hR.base_le, hb.mono hR.base_le, hQ⟩
end
end
section
def headsO : List (List Nat) → List Nat
 | [] => []
 | (j :: _) :: os => if (headsO os).contains j then headsO os else j :: headsO os
 | [] :: os => headsO os
theorem headsO_mem {i : Nat} {o : List Nat} : ∀ {os : List (List Nat)}, (i :: o) ∈ os → i ∈ headsO os
 | [] :: os, h => by
  rcases List.mem_cons.1 h with h | h
  ·cases h
  ·exact headsO_mem (os := os) h
 | (j :: l) :: os, h => by
  unfold headsO
  rcases List.mem_cons.1 h with h | h
  ·cases h
   split
   ·rename_i hc; simpa using hc
   ·simp
  ·have := headsO_mem (os := os) h
   split
   ·exact this
   ·exact List.mem_cons_of_mem _ this
def XLk (P : Program) (nro : Nat) (γ : Nat → Option Nat) (r : St) (d : Option Tmp) (α : Fm) (H : AH) (k : Fm → AH → Prop) : Prop :=
 match r with
 | .no => False
 | .val v H' => k (α.put d v) H'
 | .call f args => callable P f = true ∧ AC P nro γ f args H fun v H' => k (α.put d v) H'
def XO (P : Program) (nro n : Nat) (γ : Nat → Option Nat) (ops : Array Oper) (K : Fm → AH → Prop) (l : List Oper) : Nat → List (List Nat) → Fm → AH → Prop
 | 0, _, α, H => K α H
 | f + 1, os, α, H => ∀ i ∈ headsO os, match l[i]? with
  | none => False
  | some o => XLk P nro γ (step1 P nro n γ ops o α H) o.dst α H (XO P nro n γ ops K l f (behind i os))
section
variable {P : Program} {nro n base : Nat} {γ : Nat → Option Nat} {m : List Ent} {H : AH} {α : Fm} {a : Act} {w : World} {Q : Exit → Fm → AH → Prop} {ops : Array Oper}
theorem XO_z {K : Fm → AH → Prop} {l : List Oper} {os : List (List Nat)} : XO P nro n γ ops K l 0 os α H = K α H := rfl
theorem XO_s {K : Fm → AH → Prop} {l : List Oper} {f : Nat} {os : List (List Nat)} : XO P nro n γ ops K l (f + 1) os α H = ∀ i ∈ headsO os, match l[i]? with
  | none => False
  | some o => XLk P nro γ (step1 P nro n γ ops o α H) o.dst α H (XO P nro n γ ops K l f (behind i os)) := rfl
theorem XLk_val {v : Value} {H' : AH} {d : Option Tmp} {k : Fm → AH → Prop} : XLk P nro γ (.val v H') d α H k = k (α.put d v) H' := rfl
theorem XLk_call {f : FuncId} {args : Array Value} {d : Option Tmp} {k : Fm → AH → Prop} : XLk P nro γ (.call f args) d α H k = (callable P f = true ∧ AC P nro γ f args H fun v H' => k (α.put d v) H') := rfl
end
end
section
def pureTreeB (ops : Array Oper) (F : Nat) (os : List (List Nat)) : List Nat → Array Bool → Bool
 | [], listed => ordersB ops F listed os
 | i :: is, listed => (Region.ready .any ops listed).contains i && Region.free .any ops listed i && (match ops[i]? with | some o => pureOp o.op | none => false) && pureTreeB ops F os is (listed.setIfInBounds i true)
def ptreeB (ops : Array Oper) (ps : List Nat) (F : Nat) (os : List (List Nat)) : Bool :=
 Region.noSelect ops && decide (ps.length + F = ops.size) && pureTreeB ops F os ps (Array.replicate ops.size false)
section
variable {P : Program} {nro n base : Nat} {γ : Nat → Option Nat} {m : List Ent} {H : AH} {α : Fm} {a : Act} {w : World} {Q : Exit → Fm → AH → Prop} {ops : Array Oper}
theorem tree_runG {l : List Oper} (hl : l.toArray = ops) (hok : okL n γ l = true) {K : Fm → AH → Prop} {w0 : World} {m0 : List Ent} {Q' : Exit → Act → World → Prop} (hK : ∀ m α H a w, m0 <+: m → Rel nro base γ m H w → FR n m α a → Below base w0 w → K α H → Q' .normal a w) : ∀ (f : Nat) (listed : Array Bool) (os : List (List Nat)) (α : Fm) (H : AH) (m : List Ent) (w : World) (a : Act),
  ordersB ops f listed os = true → XO P nro n γ ops K l f os α H → m0 <+: m → Rel nro base γ m H w → FR n m α a → Below base w0 w → wpAny P .any ops Q' f listed a w
 | 0, listed, os, α, H, m, w, a, hB, h, hm, hR, hF, hb => by
  simp only [ordersB, Bool.and_eq_true, List.contains_iff_mem, List.isEmpty_iff] at hB
  exact ⟨hB.1, hK m α H a w hm hR hF hb h⟩
 | f + 1, listed, os, α, H, m, w, a, hB, h, hm, hR, hF, hb => by
  simp only [ordersB, Bool.and_eq_true] at hB
  refine ⟨fun h0 => (by rw [h0] at hB; simp at hB), fun i hi => ?_⟩
  have hBi := List.all_eq_true.1 hB.2 i hi
  obtain ⟨_, o, ho, _⟩ := mem_ready.1 hi
  have hli : l[i]? = some o := by rw [← ho, ← hl]; simp
  have hmem := List.mem_of_getElem? hli
  have hoko : o.op.operands.all (okOpd n γ) = true := List.all_eq_true.1 hok o hmem
  obtain ⟨r0, hr0⟩ := orders_ne f _ _ hBi
  have hstep : XLk P nro γ (step1 P nro n γ ops o α H) o.dst α H (XO P nro n γ ops K l f (behind i os)) := by
   have := h i (headsO_mem (behind_mem hr0))
   rw [hli] at this
   exact this
  rw [step1_eq] at hstep
  unfold wpOp
  simp only [ho]
  have fin : ∀ (v : Value) (v' : Value) (m' : List Ent) (H' : AH) (w' : World), m <+: m' → V m' v v' → Rel nro base γ m' H' w' → Below base w w' → XO P nro n γ ops K l f (behind i os) (α.put o.dst v) H' →
    wpAny P .any ops Q' f (listed.setIfInBounds i true) (a.put o.dst v') w' := fun v v' m' H' w' h1 h2 h3 h4 h5 =>
   tree_runG hl hok hK f _ _ _ _ m' w' _ hBi h5 (hm.trans h1) h3 ((hF.mono h1).put h2) (hb.trans h4)
  cases hw : wantedA ops n α o with
  | none => rw [hw] at hstep; exact hstep.elim
  | some b =>
   rw [wantedA_spec hF hw]
   cases b with
   | false =>
    simp only [Bool.false_eq_true, if_false]
    rw [hw] at hstep
    exact fin undef undef m H w List.prefix_rfl (plainV_mk plainV_undef) hR (.refl _ _) hstep
   | true =>
    rw [hw, stepW_t] at hstep
    simp only [if_true]
    refine .inl ?_
    unfold Oper.wp
    cases hc : calleeOf γ α o.op with
    | some c =>
     obtain ⟨cf, cargs⟩ := c
     rw [hc, stepC_s, XLk_call] at hstep
     obtain ⟨hcal, hac⟩ := hstep
     obtain ⟨xs, ts, hop, rfl⟩ := callee_ops hc
     have hxs : xs.all (okOpd n γ) = true := by
      have := hoko
      rw [hop] at this
      rw [Array.all_eq_true] at this ⊢
      intro i hi
      have := this (i + 1) (by simp [Op.operands, Call.operands]; omega)
      simpa [Op.operands, Call.operands, Array.getElem_append] using this
     obtain ⟨h1, h2⟩ := args_rel hR hF hxs
     rcases hac m base w (xs.map a.eval) hR h1 h2 with ⟨hbd, hac'⟩ | ⟨v0, hrun, m', v, v', H', he, hm', hv, hR', hb', hx⟩
     ·rw [call_run hop hcal hbd, Oper.upon_enter]
      refine hac'.mono ?_
      rintro e w' ⟨m', v, v', H', rfl, hm', hv, hR', hb', hx⟩
      exact fin v v' m' H' w' hm' hv hR' hb' hx
     ·cases he
      rw [call_runV hop hrun, Oper.upon_value]
      exact fin v v0 m' H' w hm' hv hR' hb' hx
    | none =>
     rw [hc, stepC_n] at hstep
     cases hxo : xop P nro γ o.op α H with
     | none =>
      rw [hxo, stepX_n] at hstep
      cases hcx : calleeX P γ α o.op with
      | none => rw [hcx] at hstep; exact hstep.elim
      | some c =>
       obtain ⟨cf, cargs⟩ := c
       rw [hcx, stepN_s, XLk_call] at hstep
       obtain ⟨hcal, hac⟩ := hstep
       obtain ⟨args', h1, h2, hrun1, hrun2⟩ := calleeX_run (P := P) hR hF hoko hcx
       rcases hac m base w args' hR h1 h2 with ⟨hbd, hac'⟩ | ⟨v0, hrun, m', v, v', H', he, hm', hv, hR', hb', hx⟩
       ·rw [hrun1 hcal hbd, Oper.upon_enter]
        refine hac'.mono ?_
        rintro e w' ⟨m', v, v', H', rfl, hm', hv, hR', hb', hx⟩
        exact fin v v' m' H' w' hm' hv hR' hb' hx
       ·cases he
        rw [hrun2 v0 hrun, Oper.upon_value]
        exact fin v v0 m' H' w hm' hv hR' hb' hx
     | some vH =>
      obtain ⟨v, H'⟩ := vH
      rw [hxo, stepX_s, XLk_val] at hstep
      obtain ⟨m', x, w', v', h1, h2, h3, h4, h5, h6⟩ := xop_av hoko hxo m base w a hR hF
      rw [h1]
      rcases h2 with rfl | ⟨rfl, rfl⟩
      ·exact fin v v' m' H' w' h3 h4 h5 h6 hstep
      ·exact fin v undef m' H' w' h3 h4 h5 h6 hstep
theorem SL.sound_pureT {F : Nat} {os : List (List Nat)} {l : List Oper} (hl : l.toArray = ops) (hok : okL n γ l = true) {Qk : Fm → Prop} {Q' : Exit → Act → World → Prop} (hQ : ∀ c a w, ¬ Q' (.panic c) a w) (hsel : Region.noSelect ops = true)
  (hR : Rel nro base γ m H w) (hK : ∀ a α listed, FR n m α a → ordersB ops F listed os = true → Qk α → wpAny P .any ops Q' F listed a w) :
  ∀ (ps : List Nat) (listed : Array Bool) (α : Fm) (a : Act), pureTreeB ops F os ps listed = true → FR n m α a → SL P n γ ops Qk H (sel l ps) α → wpAny P .any ops Q' (ps.length + F) listed a w
 | [], listed, α, a, hB, hF, h => by
  simp only [List.length_nil, Nat.zero_add]
  exact hK a α listed hF hB h
 | i :: ps, listed, α, a, hB, hF, h => by
  simp only [pureTreeB, Bool.and_eq_true] at hB
  obtain ⟨⟨⟨hr, hf⟩, hp⟩, hB'⟩ := hB
  have hr' : i ∈ Region.ready .any ops listed := by simpa using hr
  obtain ⟨_, oi, hoi, _⟩ := mem_ready.1 hr'
  have hli : l[i]? = some oi := by rw [← hoi, ← hl]; simp
  simp only [hoi] at hp
  have hoki : oi.op.operands.all (okOpd n γ) = true := by
   have := List.all_eq_true.1 hok oi (List.mem_of_getElem? hli)
   exact this
  simp only [sel, hli] at h
  unfold SL at h
  rw [show (i :: ps).length + F = (ps.length + F) + 1 by simp; omega]
  split at h
  ·exact h.elim
  ·rename_i hw
   have hwt := wantedA_spec hF hw
   exact wpAny_take hoi hsel hf hr (fun c a w h => absurd h (hQ c _ w)) (.inr ⟨hwt, rfl⟩) (SL.sound_pureT hl hok hQ hsel hR hK ps _ _ _ hB' (hF.put (plainV_mk plainV_undef)) h)
  ·rename_i hw
   have hwt := wantedA_spec hF hw
   split at h
   ·rename_i v hx
    obtain ⟨v', h1, h2⟩ := xread_all hp hoki hx hR hF
    exact wpAny_take hoi hsel hf hr (fun c a w h => absurd h (hQ c _ w)) (.inl ⟨hwt, h2⟩) (SL.sound_pureT hl hok hQ hsel hR hK ps _ _ _ hB' (hF.put h1) h)
   ·exact h.elim
theorem aw_ptree {id : Nat} {l : List Oper} (ps : List Nat) (F : Nat) (os : List (List Nat)) (hm : P.follows .mixedOrders = true) (hB : ptreeB l.toArray ps F os = true) (hok : okL n γ l = true)
  (h : ∀ K : Fm → AH → Prop, (∀ α' H', Q .normal α' H' → K α' H') → SL P n γ l.toArray (fun α1 => XO P nro n γ l.toArray K l F os α1 H) H (sel l ps) α) :
  AW P nro n γ (.region id l.toArray true) Q α H := by
 intro m base w a hR hF
 simp only [ptreeB, Bool.and_eq_true, decide_eq_true_eq] at hB
 obtain ⟨⟨hsel, hn⟩, hpt⟩ := hB
 refine wp_region_noPanic (wp_region_any hm ?_)
 have hR' : Rel nro base γ m H { w with drawn := w.drawn + 1 } := hR.drewN 1
 rw [← hn] at hpt ⊢
 refine SL.sound_pureT rfl hok (fun c a w h => h) hsel hR' (fun a1 α1 listed1 hF1 hst hq => ?_) ps _ α a hpt hF (h _ fun _ _ h => h)
 exact tree_runG rfl hok (w0 := { w with drawn := w.drawn + 1 }) (m0 := m) (fun m' α' H' a' w' h1 h2 h3 h4 h5 => NoPanic.normal ⟨m', α', H', h1, h2, h3, (Below.drew (.refl base w)).trans h4, h5⟩) F listed1 os α1 H m _ a1 hst hq List.prefix_rfl hR' hF1 (.refl _ _)
end
end
section
def XOm (P : Program) (nro n : Nat) (γ : Nat → Option Nat) (ops : Array Oper) (l : List Oper) (i : Nat) (α : Fm) (G : AH) (k : Fm → AH → Prop) : Prop := match l[i]? with
 | none => False
 | some o => XLk P nro γ (step1 P nro n γ ops o α G) o.dst α G k
def depB (ops : Array Oper) (D : List (List Nat)) : Bool := (List.range ops.size).all fun i => match ops[i]? with
 | none => false
 | some o => ((D.getD i []).all fun d => o.after.toList.any fun e => decide (e.on = d) && Region.binds .any e) && o.after.toList.all fun e => !(Region.binds .any e) || decide (e.on < i)
theorem depB_dep {ops : Array Oper} {D : List (List Nat)} (h : depB ops D = true) {i : Nat} {o : Oper} (ho : ops[i]? = some o) : (∀ d ∈ D.getD i [], ∃ e ∈ o.after, e.on = d ∧ Region.binds .any e = true) ∧ ∀ e ∈ o.after, Region.binds .any e = true → e.on < i := by
 have hi : i < ops.size := (Array.getElem?_eq_some_iff.1 ho).1
 have := List.all_eq_true.1 h i (List.mem_range.2 hi)
 rw [ho] at this
 simp only [Bool.and_eq_true] at this
 refine ⟨fun d hd => ?_, fun e he hb => ?_⟩
 ·obtain ⟨e, he, h2⟩ := List.any_eq_true.1 (List.all_eq_true.1 this.1 d hd)
  simp only [Bool.and_eq_true, decide_eq_true_eq] at h2
  exact ⟨e, by simpa using he, h2.1, h2.2⟩
 ·have := List.all_eq_true.1 this.2 e (by simpa using he)
  rw [hb] at this
  simpa using this
def left (s : Array Bool) : Nat := s.toList.count false
theorem left_set {s : Array Bool} {i : Nat} (h : s.getD i true = false) : left (s.setIfInBounds i true) + 1 = left s := by
 have hi : i < s.size := by
  by_cases e : i < s.size
  ·exact e
  ·rw [Array.getD_eq_getD_getElem?, Array.getElem?_eq_none (by omega)] at h
   cases h
 have hg : s.toList[i]? = some false := by
  rw [Array.getD_eq_getD_getElem?, Array.getElem?_eq_getElem hi] at h
  rw [Array.getElem?_toList, Array.getElem?_eq_getElem hi]
  exact congrArg some h
 unfold left
 rw [Array.toList_setIfInBounds]
 have : ∀ (l : List Bool) (i : Nat), l[i]? = some false → (l.set i true).count false + 1 = l.count false := by
  intro l
  induction l with
  | nil => intro i h; cases h
  | cons x l ih =>
   intro i h
   cases i with
   | zero => cases h; simp
   | succ i =>
    have := ih i h
    rw [List.set_cons_succ, List.count_cons, List.count_cons]
    omega
 exact this _ _ hg
theorem left_zero {s : Array Bool} (h : left s = 0) : ∀ i, s.getD i true = true := fun i => by
 cases hg : s.getD i true with
 | true => rfl
 | false => have := left_set hg; omega
theorem least_out {s : Array Bool} (h : 0 < left s) : ∃ i, s.getD i true = false ∧ ∀ j, j < i → s.getD j false = true := by
 have hex : ∃ i, s.getD i true = false := by
  by_cases e : ∃ i, s.getD i true = false
  ·exact e
  ·exfalso
   have hall : ∀ x ∈ s.toList, x = true := fun x hx => by
    obtain ⟨i, hi, rfl⟩ := List.mem_iff_getElem.1 hx
    cases hb : s.toList[i] with
    | true => rfl
    | false =>
     refine absurd ⟨i, ?_⟩ e
     have hi' : i < s.size := by simpa using hi
     rw [Array.getD_eq_getD_getElem?, Array.getElem?_eq_getElem hi']
     simpa using hb
   have : s.toList.count false = 0 := List.count_eq_zero.2 (fun hm => by have := hall false hm; cases this)
   unfold left at h
   omega
 have : ∀ n, (∃ i, i < n ∧ s.getD i true = false) → ∃ i, s.getD i true = false ∧ ∀ j, j < i → s.getD j true ≠ false := by
  intro n
  induction n with
  | zero => rintro ⟨i, hi, _⟩; omega
  | succ n ih =>
   rintro ⟨i, hi, hg⟩
   by_cases e : ∃ j, j < n ∧ s.getD j true = false
   ·exact ih e
   ·exact ⟨i, hg, fun j hj hgj => e ⟨j, by omega, hgj⟩⟩
 obtain ⟨i, hi⟩ := hex
 obtain ⟨k, hk, hlt⟩ := this (i + 1) ⟨i, by omega, hi⟩
 refine ⟨k, hk, fun j hj => ?_⟩
 have hks : k < s.size := by
  by_cases e : k < s.size
  ·exact e
  ·rw [Array.getD_eq_getD_getElem?, Array.getElem?_eq_none (by omega)] at hk
   cases hk
 have := hlt j hj
 rw [Array.getD_eq_getD_getElem?, Array.getElem?_eq_getElem (by omega)] at this ⊢
 simpa using this
theorem gd_tf {s : Array Bool} {i : Nat} (h : i < s.size) : s.getD i true = s.getD i false := by
 rw [Array.getD_eq_getD_getElem?, Array.getD_eq_getD_getElem?, Array.getElem?_eq_getElem h]; rfl
section
variable {P : Program} {nro n base : Nat} {γ : Nat → Option Nat} {m : List Ent} {H : AH} {α : Fm} {a : Act} {w : World} {Q : Exit → Fm → AH → Prop} {ops : Array Oper}
theorem inv_run {l : List Oper} (hl : l.toArray = ops) (hok : okL n γ l = true) {D : List (List Nat)} (hD : depB ops D = true) {J : Array Bool → Fm → AH → Prop}
  (hs : ∀ (i : Nat) (s : Array Bool) (α : Fm) (G : AH) (k : Fm → AH → Prop), J s α G → i < ops.size → s.getD i false = false → (∀ d ∈ D.getD i [], s.getD d false = true) → (∀ j, i ∈ D.getD j [] → s.getD j false = false) → (∀ α' G', J (s.setIfInBounds i true) α' G' → k α' G') → XOm P nro n γ ops l i α G k)
  (hK : ∀ (s : Array Bool) (α : Fm) (G : AH), J s α G → s.all id = true → Q .normal α G) {w0 : World} {m0 : List Ent} : ∀ (f : Nat) (listed : Array Bool) (α : Fm) (H : AH) (m : List Ent) (w : World) (a : Act),
  listed.size = ops.size → left listed = f → (∀ j, listed.getD j false = true → ∀ d ∈ D.getD j [], listed.getD d false = true) → J listed α H → m0 <+: m → Rel nro base γ m H w → FR n m α a → Below base w0 w → wpAny P .any ops (Con nro n γ m0 base w0 Q) f listed a w
 | 0, listed, α, H, m, w, a, hsz, hlf, hcl, h, hm, hR, hF, hb => by
  have hz := left_zero hlf
  refine ⟨?_, m, α, H, hm, hR, hF, hb, hK _ _ _ h ?_⟩
  ·refine List.eq_nil_iff_forall_not_mem.2 fun j hj => ?_
   have := (mem_ready.1 hj).1
   rw [hz j] at this
   cases this
  ·rw [Array.all_eq_true]
   intro i hi
   have := hz i
   rw [Array.getD_eq_getD_getElem?, Array.getElem?_eq_getElem hi] at this
   exact this
 | f + 1, listed, α, H, m, w, a, hsz, hlf, hcl, h, hm, hR, hF, hb => by
  refine ⟨fun h0 => ?_, fun i hi => ?_⟩
  ·obtain ⟨j, hj, hlt⟩ := least_out (s := listed) (by omega)
   have hjs : j < ops.size := by
    by_cases e : j < listed.size
    ·omega
    ·rw [Array.getD_eq_getD_getElem?, Array.getElem?_eq_none (by omega)] at hj
     cases hj
   have hoj : ops[j]? = some ops[j] := Array.getElem?_eq_getElem hjs
   have : j ∈ Region.ready .any ops listed := mem_ready.2 ⟨hj, _, hoj, fun e he hb => hlt _ ((depB_dep hD hoj).2 e he hb)⟩
   rw [h0] at this
   cases this
  obtain ⟨hni, o, ho, hwait⟩ := mem_ready.1 hi
  have hio : i < ops.size := (Array.getElem?_eq_some_iff.1 ho).1
  have hni2 : listed.getD i false = false := by rw [← gd_tf (by omega)]; exact hni
  have hdi : ∀ d ∈ D.getD i [], listed.getD d false = true := fun d hd => by
   obtain ⟨e, he, rfl, hb⟩ := (depB_dep hD ho).1 d hd
   exact hwait e he hb
  have hci : ∀ j, i ∈ D.getD j [] → listed.getD j false = false := fun j hj => by
   cases hg : listed.getD j false with
   | false => rfl
   | true => rw [hcl j hg i hj] at hni2; cases hni2
  have hcl2 : ∀ j, (listed.setIfInBounds i true).getD j false = true → ∀ d ∈ D.getD j [], (listed.setIfInBounds i true).getD d false = true := fun j hj d hd => by
   have up : ∀ q, listed.getD q false = true → (listed.setIfInBounds i true).getD q false = true := fun q hq => by
    by_cases e : i = q
    ·subst e; rw [hq] at hni2; cases hni2
    ·rw [Array.getD_eq_getD_getElem?, Array.getElem?_setIfInBounds_ne e, ← Array.getD_eq_getD_getElem?]; exact hq
   by_cases e : i = j
   ·subst e
    exact up d (hdi d hd)
   ·rw [Array.getD_eq_getD_getElem?, Array.getElem?_setIfInBounds_ne e, ← Array.getD_eq_getD_getElem?] at hj
    exact up d (hcl j hj d hd)
  have hli : l[i]? = some o := by rw [← ho, ← hl]; simp
  have hmem := List.mem_of_getElem? hli
  have hoko : o.op.operands.all (okOpd n γ) = true := List.all_eq_true.1 hok o hmem
  have hstep := hs i listed α H (fun α' H' => J (listed.setIfInBounds i true) α' H') h hio hni2 hdi hci (fun _ _ h => h)
  unfold XOm at hstep
  rw [hli] at hstep
  simp only at hstep
  rw [step1_eq] at hstep
  unfold wpOp
  simp only [ho]
  have fin : ∀ (v : Value) (v' : Value) (m' : List Ent) (H' : AH) (w' : World), m <+: m' → V m' v v' → Rel nro base γ m' H' w' → Below base w w' → J (listed.setIfInBounds i true) (α.put o.dst v) H' →
    wpAny P .any ops (Con nro n γ m0 base w0 Q) f (listed.setIfInBounds i true) (a.put o.dst v') w' := fun v v' m' H' w' h1 h2 h3 h4 h5 =>
   inv_run hl hok hD hs hK f _ _ _ m' w' _ (by simpa using hsz) (by have := left_set hni; omega) hcl2 h5 (hm.trans h1) h3 ((hF.mono h1).put h2) (hb.trans h4)
  cases hw : wantedA ops n α o with
  | none => rw [hw] at hstep; exact hstep.elim
  | some b =>
   rw [wantedA_spec hF hw]
   cases b with
   | false =>
    simp only [Bool.false_eq_true, if_false]
    rw [hw] at hstep
    exact fin undef undef m H w List.prefix_rfl (plainV_mk plainV_undef) hR (.refl _ _) hstep
   | true =>
    rw [hw, stepW_t] at hstep
    simp only [if_true]
    refine .inl ?_
    unfold Oper.wp
    cases hc : calleeOf γ α o.op with
    | some c =>
     obtain ⟨cf, cargs⟩ := c
     rw [hc, stepC_s, XLk_call] at hstep
     obtain ⟨hcal, hac⟩ := hstep
     obtain ⟨xs, ts, hop, rfl⟩ := callee_ops hc
     have hxs : xs.all (okOpd n γ) = true := by
      have := hoko
      rw [hop] at this
      rw [Array.all_eq_true] at this ⊢
      intro i hi
      have := this (i + 1) (by simp [Op.operands, Call.operands]; omega)
      simpa [Op.operands, Call.operands, Array.getElem_append] using this
     obtain ⟨h1, h2⟩ := args_rel hR hF hxs
     rcases hac m base w (xs.map a.eval) hR h1 h2 with ⟨hbd, hac'⟩ | ⟨v0, hrun, m', v, v', H', he, hm', hv, hR', hb', hx⟩
     ·rw [call_run hop hcal hbd, Oper.upon_enter]
      refine hac'.mono ?_
      rintro e w' ⟨m', v, v', H', rfl, hm', hv, hR', hb', hx⟩
      exact fin v v' m' H' w' hm' hv hR' hb' hx
     ·cases he
      rw [call_runV hop hrun, Oper.upon_value]
      exact fin v v0 m' H' w hm' hv hR' hb' hx
    | none =>
     rw [hc, stepC_n] at hstep
     cases hxo : xop P nro γ o.op α H with
     | none =>
      rw [hxo, stepX_n] at hstep
      cases hcx : calleeX P γ α o.op with
      | none => rw [hcx] at hstep; exact hstep.elim
      | some c =>
       obtain ⟨cf, cargs⟩ := c
       rw [hcx, stepN_s, XLk_call] at hstep
       obtain ⟨hcal, hac⟩ := hstep
       obtain ⟨args', h1, h2, hrun1, hrun2⟩ := calleeX_run (P := P) hR hF hoko hcx
       rcases hac m base w args' hR h1 h2 with ⟨hbd, hac'⟩ | ⟨v0, hrun, m', v, v', H', he, hm', hv, hR', hb', hx⟩
       ·rw [hrun1 hcal hbd, Oper.upon_enter]
        refine hac'.mono ?_
        rintro e w' ⟨m', v, v', H', rfl, hm', hv, hR', hb', hx⟩
        exact fin v v' m' H' w' hm' hv hR' hb' hx
       ·cases he
        rw [hrun2 v0 hrun, Oper.upon_value]
        exact fin v v0 m' H' w hm' hv hR' hb' hx
     | some vH =>
      obtain ⟨v, H'⟩ := vH
      rw [hxo, stepX_s, XLk_val] at hstep
      obtain ⟨m', x, w', v', h1, h2, h3, h4, h5, h6⟩ := xop_av hoko hxo m base w a hR hF
      rw [h1]
      rcases h2 with rfl | ⟨rfl, rfl⟩
      ·exact fin v v' m' H' w' h3 h4 h5 h6 hstep
      ·exact fin v undef m' H' w' h3 h4 h5 h6 hstep
theorem aw_inv {rid : Nat} {l : List Oper} (D : List (List Nat)) (J : Array Bool → Fm → AH → Prop) (hm : P.follows .mixedOrders = true) (hB : depB l.toArray D = true) (hok : okL n γ l = true)
  (h0 : J (Array.replicate l.length false) α H)
  (hs : ∀ (i : Nat) (s : Array Bool) (α : Fm) (G : AH) (k : Fm → AH → Prop), J s α G → i < l.toArray.size → s.getD i false = false → (∀ d ∈ D.getD i [], s.getD d false = true) → (∀ j, i ∈ D.getD j [] → s.getD j false = false) → (∀ α' G', J (s.setIfInBounds i true) α' G' → k α' G') → XOm P nro n γ l.toArray l i α G k)
  (hK : ∀ (s : Array Bool) (α : Fm) (G : AH), J s α G → s.all id = true → Q .normal α G) : AW P nro n γ (.region rid l.toArray true) Q α H := by
 intro m base w a hR hF
 refine wp_region_any hm ?_
 have h00 : ∀ j, (Array.replicate l.length false).getD j false = false := fun j => by
  rw [Array.getD_eq_getD_getElem?, Array.getElem?_replicate]
  split <;> rfl
 have := inv_run (P := P) (Q := Q) (ops := l.toArray) rfl hok hB hs hK (w0 := w) (m0 := m) l.length (Array.replicate l.length false) α H m { w with drawn := w.drawn + 1 } a (by simp) (by unfold left; simp) (fun j hj => by rw [h00 j] at hj; cases hj) h0 List.prefix_rfl (hR.drewN 1) hF (Below.drew (.refl base w))
 simpa using this
end
theorem name_aw {P : Program} {nro n : Nat} {γ : Nat → Option Nat} {c : Code} {Q : Exit → Fm → AH → Prop} {α : Fm} {H : AH} (h : ∀ β : Fm, β = α → AW P nro n γ c Q β H) : AW P nro n γ c Q α H := h α rfl
structure IJ (ds : List Nat) (VP : AH → Nat → Value → Prop) (β : Fm) (Hb : AH) (s : Array Bool) (α : Fm) (G : AH) : Prop where
 sz : s.size = ds.length
 lo : ∀ t, t ∉ ds → α t = β t
 lw : Hb.length ≤ G.length ∧ ∀ j, j < Hb.length → hget G j = hget Hb j
 val : ∀ i t, ds[i]? = some t → s.getD i false = true → VP G i (α t)
theorem IJ.start {ds : List Nat} {VP : AH → Nat → Value → Prop} {β : Fm} {Hb : AH} {n : Nat} (hn : n = ds.length) : IJ ds VP β Hb (Array.replicate n false) β Hb :=
 ⟨by simpa using hn, fun t _ => rfl, ⟨Nat.le_refl _, fun _ _ => rfl⟩, fun i t hi h => by
  rw [Array.getD_eq_getD_getElem?, Array.getElem?_replicate] at h
  split at h <;> cases h⟩
theorem IJ.put {ds : List Nat} {VP : AH → Nat → Value → Prop} {β : Fm} {Hb : AH} {s : Array Bool} {α : Fm} {G G' : AH} (hnd : ds.Nodup) (hst : ∀ (G G' : AH) (i : Nat) (v : Value), G.length ≤ G'.length → (∀ j, j < G.length → hget G' j = hget G j) → VP G i v → VP G' i v) (h : IJ ds VP β Hb s α G) {i t : Nat} {v : Value}
  (hi : ds[i]? = some t) (hl : G.length ≤ G'.length) (hk : ∀ j, j < G.length → hget G' j = hget G j) (hv : VP G' i v) : IJ ds VP β Hb (s.setIfInBounds i true) (α.put (some t) v) G' := by
 refine ⟨by simp [h.sz], fun t' ht => ?_, ⟨by have := h.lw.1; omega, fun j hj => (hk j (by have := h.lw.1; omega)).trans (h.lw.2 j hj)⟩, fun j t' hj hs => ?_⟩
 ·have hm : t ∈ ds := List.mem_of_getElem? hi
  have : t' ≠ t := fun e => ht (e ▸ hm)
  rw [← h.lo t' ht]
  simp [put_at, this]
 ·by_cases e : j = i
  ·subst e
   rw [hi] at hj
   cases hj
   simpa [put_at] using hv
  ·have hne : t' ≠ t := fun e2 => e (by
    subst e2
    exact (List.getElem?_inj (List.getElem?_eq_some_iff.1 hj).1 hnd).1 (hj.trans hi.symm))
   have hs2 : s.getD j false = true := by
    rw [Array.getD_eq_getD_getElem?, Array.getElem?_setIfInBounds_ne (Ne.symm e)] at hs
    rw [Array.getD_eq_getD_getElem?]
    exact hs
   have := hst G G' j _ hl hk (h.val j t' hj hs2)
   simpa [put_at, hne] using this
end
section
section
variable {P : Program} {nro n base : Nat} {γ : Nat → Option Nat} {m : List Ent} {H : AH} {α : Fm} {a : Act} {w : World}
theorem wpList_then {ops : Array Oper} {Q1 Q2 : Exit → Act → World → Prop} {l2 : List Oper} (hn : ∀ a w, Q1 .normal a w → wpList P ops Q2 l2 a w) (ho : ∀ e a w, e ≠ .normal → Q1 e a w → Q2 e a w) : ∀ (l : List Oper) (a : Act) (w : World), wpList P ops Q1 l a w → wpList P ops Q2 (l ++ l2) a w
 | [], a, w, h => hn a w h
 | o :: l, a, w, h => by
  rw [List.cons_append]
  unfold wpList at h ⊢
  have hout : LetsOut Q1 → LetsOut Q2 := fun ⟨a, w, h⟩ => ⟨a, w, ho _ _ _ (by simp) h⟩
  split
  ·rename_i hw
   rw [if_pos hw] at h
   refine h.imp (fun h => ?_) (fun h => ⟨h.1, hout h.2⟩)
   unfold Oper.wp at h ⊢
   generalize (execOp a.eval o).run P w = r at *
   cases r with
   | ok x w' =>
    cases x <;> simp only [Oper.upon] at h ⊢ <;>
     first
      | exact wpList_then hn ho l _ _ h
      | exact Calls.mono h (fun e w'' he => by cases e <;> first | exact wpList_then hn ho l _ _ he | exact ho _ _ _ (by simp) he | exact hout he)
      | exact Go.Rows.mono h (fun _ _ he => wpList_then hn ho l _ _ he)
   | halt x w' => cases x <;> simp only [Oper.upon] at h ⊢ <;> first | exact ho _ _ _ (by simp) h | exact h
  ·rename_i hw
   rw [if_neg hw] at h
   exact wpList_then hn ho l _ _ h
theorem al_then {ops : Array Oper} {Q : Exit → Fm → AH → Prop} {l2 : List Oper} (l1 : List Oper) (hok : okL n γ l1 = true) (h : XL P nro n γ ops (fun α' H' => AL P nro n γ ops Q l2 α' H') l1 α H) : AL P nro n γ ops Q (l1 ++ l2) α H := by
 intro m base w a hR hF
 have h1 : AL P nro n γ ops (thenQ (fun α' H' => AL P nro n γ ops Q l2 α' H') Q) l1 α H := XL.sound l1 α H hok h
 refine wpList_then (fun a' w' hc => ?_) (fun e a' w' hne hc => ?_) l1 a w (h1 m base w a hR hF)
 ·obtain ⟨m', α', H', hm, hR', hF', hb, hq⟩ := hc
  exact wpList_mono (fun e a w hc => hc.trans hm hb) _ _ _ (hq m' base w' a' hR' hF')
 ·obtain ⟨m', α', H', hm, hR', hF', hb, hq⟩ := hc
  cases e with
  | normal => exact absurd rfl hne
  | _ => exact ⟨m', α', H', hm, hR', hF', hb, hq⟩
theorem aw_opsA {id : Nat} {l : List Oper} {Q : Exit → Fm → AH → Prop} (k : Nat) (hok : okL n γ (l.take k) = true) (h : XL P nro n γ l.toArray (fun α' H' => AL P nro n γ l.toArray Q (l.drop k) α' H') (l.take k) α H) : AW P nro n γ (.region id l.toArray false) Q α H := by
 refine aw_region ?_
 have := al_then (Q := Q) (l2 := l.drop k) (l.take k) hok h
 rwa [List.take_append_drop] at this
theorem al_xl {ops : Array Oper} {Q : Exit → Fm → AH → Prop} {l : List Oper} (hok : okL n γ l = true) (h : ∀ K : Fm → AH → Prop, (∀ α' H', Q .normal α' H' → K α' H') → XL P nro n γ ops K l α H) : AL P nro n γ ops Q l α H := XL.sound l α H hok (h _ fun _ _ h => h)
end
end
end Go.Proofs.YtlaglpnbmkoakaaDoor
