/-
  A slice of structs of numbers, texts, bools and slices of numbers that comes in: its blocks, only read. Over any program.
-/
import Derived.Test.YtcdkpeepboofhaaXsl
import Derived.Test.YtcdkpeepboofhaaXok
namespace Go.Proofs.Ytcdkpeepboofhaa
open Go Go.RowKit Go.ChangeShapes Go.WideShapes Go.ChangeAt
set_option linter.unusedVariables false
set_option linter.unusedSimpArgs false

inductive FK where
  | int (k : IntKind) | str | bool | isl (k : IntKind)
inductive FD where
  | int (k : IntKind) (z : Int) | str (s : ByteArray) | bool (b : Bool) | isl (k : IntKind) (zs : List Int)
/-- Is this datum of that kind? -/
def FD.ok : FK → FD → Prop
  | .int k, .int k' z => k' = k ∧ (Lit.int k z).wf = true
  | .str, .str s => s.size ≤ maxLen
  | .bool, .bool _ => True
  | .isl k, .isl k' zs => k' = k ∧ (∀ n ∈ zs, (Lit.int k n).wf = true) ∧ zs.length ≤ maxLen
  | _, _ => False
/-- Does this told value show it? -/
def FD.val (H : AH) : FD → Value → Prop
  | .int k z, v => v = .int k z
  | .str s, v => v = .string s
  | .bool b, v => v = .bool b
  | .isl k zs, v => SlV H v (iv k zs)
theorem SlV.keep {H H' : AH} {v : Value} {cells : List Value} (h : SlV H v cells) (hl : ∀ j, j < H.length → hget H' j = hget H j) : SlV H' v cells := by
  rcases h with h | ⟨j, off, k, h1, h2, h3⟩
  · exact .inl h
  · exact .inr ⟨j, off, k, h1, by rw [hl j (hget_lt h2)]; exact h2, h3⟩
theorem FD.val.keep {H H' : AH} {d : FD} {v : Value} (h : d.val H v) (hl : ∀ j, j < H.length → hget H' j = hget H j) : d.val H' v := by
  cases d with
  | isl k zs => exact SlV.keep h hl
  | _ => exact h
/-- A slice value that shows these rows. -/
def SlR (sz : Nat) (H : AH) (v : Value) (rows : List (List FD)) : Prop :=
  (∃ a, v = .slice a 0 0 ∧ rows = []) ∨ ∃ j k, v = .slice (some ⟨j, 0, none⟩) rows.length rows.length ∧ hget H j = some k ∧ rows.length * sz ≤ k.cells.length ∧
    ∀ (i : Nat) (row : List FD), rows[i]? = some row → row.length = sz ∧ ∀ (c : Nat) (d : FD), row[c]? = some d → ∃ x, k.cells[i * sz + c]? = some x ∧ d.val H x
theorem SlR.low {sz : Nat} {H H' : AH} {v : Value} {rows : List (List FD)} (h : SlR sz H v rows) (hl : ∀ j, j < H.length → hget H' j = hget H j) : SlR sz H' v rows := by
  rcases h with h | ⟨j, k, h1, h2, h3, h4⟩
  · exact .inl h
  · refine .inr ⟨j, k, h1, by rw [hl j (hget_lt h2)]; exact h2, h3, fun i row hr => ⟨(h4 i row hr).1, fun c d hd => ?_⟩⟩
    obtain ⟨x, hx, hv⟩ := (h4 i row hr).2 c d hd
    exact ⟨x, hx, hv.keep hl⟩
theorem SlR.len {P : Program} {sz : Nat} {H : AH} {v : Value} {rows : List (List FD)} {t e : TypeId} (h : SlR sz H v rows) (ht : und P t = .slice e) : xlen P t v = some (.int .i64 rows.length) := by
  rcases h with ⟨a, rfl, rfl⟩ | ⟨j, k, rfl, _⟩
  · simp [xlen, ht]
  · simp [xlen, ht]
/-- One row, by its address. -/
theorem SlR.at {P : Program} {sz : Nat} {H : AH} {v : Value} {rows : List (List FD)} {t e : TypeId} (h : SlR sz H v rows) (ht : und P t = .slice e) (hs : szt P e = sz) (h0 : 0 < sz) (hd : isAggD (und P e) = true) {i : Nat} {row : List FD} (hi : rows[i]? = some row) :
    ∃ (p : Value) (vs : List Value), xindexAddr P t v (.int .i64 (i : Nat)) = some p ∧ xload P e p H = some (.agg vs.toArray) ∧ vs.length = sz ∧ row.length = sz ∧ ∀ (c : Nat) (d : FD), row[c]? = some d → ∃ x, vs[c]? = some x ∧ d.val H x := by
  have hil : i < rows.length := (List.getElem?_eq_some_iff.1 hi).1
  rcases h with ⟨a, rfl, rfl⟩ | ⟨j, b, rfl, hb, hc, hk⟩
  · simp at hi
  · have h2 : i * sz + sz ≤ b.cells.length := by
      have : (i + 1) * sz ≤ rows.length * sz := Nat.mul_le_mul_right _ hil
      rw [Nat.add_mul] at this
      omega
    obtain ⟨hrl, hrow⟩ := hk i row hi
    refine ⟨.pointer (some ⟨j, i * sz, none⟩), (b.cells.drop (i * sz)).take sz, ?_, ?_, by simp; omega, hrl, fun c d hcd => ?_⟩
    · unfold xindexAddr
      simp only [ht, hs]
      rw [if_pos ⟨by omega, by omega, h0⟩]
      simp
    · unfold xload
      simp only [hb, hd, hs, if_true]
      rw [if_pos ⟨h0, h2⟩]
    · obtain ⟨x, hx, hv⟩ := hrow c d hcd
      have hcl : c < sz := by rw [← hrl]; exact (List.getElem?_eq_some_iff.1 hcd).1
      exact ⟨x, by rw [List.getElem?_take_of_lt hcl, List.getElem?_drop]; exact hx, hv⟩

/-- What is told of such a slice: its blocks, by the number of the first of them. -/
structure ToldR (sz : Nat) (W : World) (v : Value) (E : Nat → List (Ent × Blk)) (vt : Nat → Value) (rows : List (List FD)) : Prop where
  ro : ∀ (A B : List (Ent × Blk)), ∀ x ∈ E A.length, x.1.b < W.heap.size ∧ x.1.es = x.2.es ∧ ∃ cs fr, W.heap[x.1.b]? = some (.cells cs x.2.ty fr) ∧ ∀ (j : Nat) (u : Value), x.2.cells[j]? = some u → ∃ y, cs[x.1.o + j]? = some y ∧ V1 ((A ++ (E A.length ++ B)).map (·.1)) u y
  rel : ∀ (A B : List (Ent × Blk)), V ((A ++ (E A.length ++ B)).map (·.1)) (vt A.length) v
  sl : ∀ (A B : List (Ent × Blk)), SlR sz ((A ++ (E A.length ++ B)).map fun x => some x.2) (vt A.length) rows
section
variable {P : Program} {W : World} {H : Type} {enc : TypeId × Value → H}
/-- How a field's type is told. -/
def fkB (P : Program) (t : TypeId) : FK → Bool
  | .int k => match P.underlying t with | some (.int k') => decide (k' = k) | _ => false
  | .str => match P.underlying t with | some .string => true | _ => false
  | .bool => match P.underlying t with | some .bool => true | _ => false
  | .isl k => match P.underlying t with | some (.slice e) => (match P.underlying e with | some (.int k') => decide (k' = k) && decide (P.cellsOf e = 1) | _ => false) | _ => false
/-- A cell as it lies in memory. -/
def CellIs (W : World) : FD → Value → Prop
  | .int k z, x => x = .int k z
  | .str s, x => x = .string s
  | .bool b, x => x = .bool b
  | .isl k zs, x => (x = .slice none 0 0 ∧ zs = []) ∨ ∃ a cap, x = .slice (some a) zs.length cap ∧ zs.length ≤ cap ∧ ∀ i, i < zs.length → W.cell? (a.add i) = some (.int k (zs.getD i 0))
theorem trod_bool' {base : Nat} {sp : Nat → Bool} {hd : Bool} {t : TypeId} {fuel : Nat} {cs : List Value} {x : DataW H × List MemPlace} (ht : P.underlying t = some .bool) (h : DataW.trod enc P W base sp hd fuel t cs = some x) : ∃ b, cs = [.bool b] := by
  cases fuel with
  | zero => simp [DataW.trod] at h
  | succ n =>
    unfold DataW.trod at h
    rw [ht] at h
    split at h <;> simp_all
theorem open_cell {base : Nat} {sp : Nat → Bool} {hd : Bool} {t : TypeId} {fk : FK} {fuel : Nat} {x : Value} {y : DataW H × List MemPlace} (hk : fkB P t fk = true) (h : DataW.trod enc P W base sp hd fuel t [x] = some y) : ∃ d : FD, d.ok fk ∧ CellIs W d x := by
  cases fk with
  | int k =>
    simp only [fkB] at hk
    split at hk
    · rename_i k' hu
      obtain ⟨n, h1, _, hw⟩ := DataW.trod_int hu h
      have hk : k' = k := by simpa using hk
      subst hk
      exact ⟨.int k' n, ⟨rfl, hw⟩, by simpa [CellIs] using h1⟩
    · cases hk
  | str =>
    simp only [fkB] at hk
    split at hk
    · rename_i hu
      obtain ⟨s, h1, _, hw⟩ := DataW.trod_string hu h
      exact ⟨.str s, hw, by simpa [CellIs] using h1⟩
    · cases hk
  | bool =>
    simp only [fkB] at hk
    split at hk
    · rename_i hu
      obtain ⟨b, h1⟩ := trod_bool' hu h
      exact ⟨.bool b, trivial, by simpa [CellIs] using h1⟩
    · cases hk
  | isl k =>
    simp only [fkB] at hk
    split at hk
    case h_2 => cases hk
    rename_i e hu
    split at hk
    case h_2 => cases hk
    rename_i k' he
    simp only [Bool.and_eq_true, decide_eq_true_eq] at hk
    obtain ⟨rfl, hc⟩ := hk
    rcases open_ints hu he hc h with ⟨h0, _⟩ | ⟨a, len, cap, zs, h0, _, hl, hm, hz, _, hcell, hwf⟩
    · exact ⟨.isl k' [], ⟨rfl, fun n hn => (by cases hn), Nat.zero_le _⟩, .inl ⟨by simpa using h0, rfl⟩⟩
    · have hlen : len ≤ zs.length := by rw [hz]; split <;> omega
      have hln : (zs.take len).length = len := by simp; omega
      refine ⟨.isl k' (zs.take len), ⟨rfl, fun n hn => hwf n (List.mem_of_mem_take hn), by rw [hln]; omega⟩, .inr ⟨a, cap, by rw [hln]; simpa using h0, by rw [hln]; exact hl, fun i hi => ?_⟩⟩
      rw [hln] at hi
      rw [hcell i (by omega), List.getD_eq_getElem?_getD, List.getD_eq_getElem?_getD, List.getElem?_take_of_lt hi]
/-- The told cell, and the block that it may show. -/
theorem tell_cell {d : FD} {x : Value} (h : CellIs W d x) {b0 : Nat} {cs0 : Array Value} {ty0 : TypeId} {fr0 : Nat × Nat} (hb0 : W.heap[b0]? = some (.cells cs0 ty0 fr0)) (n : Nat) :
    ∃ (u : Value) (sub : Ent × Blk), RoOk W sub ∧ (∀ m : List Ent, m[n]? = some sub.1 → V1 m u x) ∧ ∀ H : AH, hget H n = some sub.2 → d.val H u := by
  have dummy : RoOk W ((⟨b0, 0, 0, none⟩ : Ent), (⟨[], ty0, none⟩ : Blk)) := ⟨(Array.getElem?_eq_some_iff.1 hb0).1, rfl, cs0, fr0, hb0, fun j v hv => by simp at hv⟩
  cases d with
  | int k z => exact ⟨x, _, dummy, fun m _ => by cases h; exact .plain rfl, fun H _ => h⟩
  | str s => exact ⟨x, _, dummy, fun m _ => by cases h; exact .plain rfl, fun H _ => h⟩
  | bool b => exact ⟨x, _, dummy, fun m _ => by cases h; exact .plain rfl, fun H _ => h⟩
  | isl k zs =>
    rcases h with ⟨rfl, rfl⟩ | ⟨a, cap, rfl, hl, hc⟩
    · exact ⟨.slice none 0 0, _, dummy, fun m _ => .plain rfl, fun H _ => .inl ⟨none, rfl, rfl⟩⟩
    · rcases Nat.eq_zero_or_pos zs.length with h0 | h0
      · have : zs = [] := List.eq_nil_of_length_eq_zero h0
        subst this
        exact ⟨.slice (some ⟨0, 0, some 0⟩) 0 0, _, dummy, fun m _ => .sl0, fun H _ => .inl ⟨_, rfl, rfl⟩⟩
      · have hc0 := hc 0 h0
        obtain ⟨b, off, spot⟩ := a
        have hsp : spot = none := by
          cases spot with
          | none => rfl
          | some s =>
            simp only [World.cell?, Addr.add] at hc0
            split at hc0
            · split at hc0 <;> simp_all
            · cases hc0
        subst hsp
        have hcell : ∀ i, i < zs.length → W.cell? ⟨b, off + i, none⟩ = some (.int k (zs.getD i 0)) := fun i hi => by
          have := hc i hi
          rwa [add_none'] at this
        have hblk : ∃ cs ty fr, W.heap[b]? = some (.cells cs ty fr) := by
          have := hcell 0 h0
          simp only [World.cell?] at this
          split at this
          · rename_i c t f hh; exact ⟨c, t, f, hh⟩
          · cases this
        obtain ⟨cs, ty, fr, hh⟩ := hblk
        refine ⟨.slice (some ⟨n, 0, none⟩) zs.length zs.length, ((⟨b, off, 0, none⟩ : Ent), (⟨iv k zs, ty, none⟩ : Blk)), ⟨(Array.getElem?_eq_some_iff.1 hh).1, rfl, cs, fr, hh, fun j v hv => ?_⟩, fun m hm => ?_, fun G hG => ?_⟩
        · have hj : j < zs.length := by
            have := (List.getElem?_eq_some_iff.1 hv).1
            simpa using this
          rw [iv_getN k zs j hj] at hv
          cases hv
          have := hcell j hj
          simp only [World.cell?, hh] at this
          exact ⟨by simpa using this, rfl⟩
        · exact V1.sl (off := 0) (e := ⟨b, off, 0, none⟩) hm hl (fun _ s hs => by cases hs)
        · exact .inr ⟨n, 0, _, by simp, hG, fun i x hx => by rw [Nat.zero_add]; exact hx⟩
theorem choose_list {β γ : Type} (R : Nat → β → γ → Prop) : ∀ (l : List β) (o : Nat), (∀ i x, l[i]? = some x → ∃ y, R (o + i) x y) → ∃ l' : List γ, l'.length = l.length ∧ ∀ i x, l[i]? = some x → ∃ y, l'[i]? = some y ∧ R (o + i) x y
  | [], o, _ => ⟨[], rfl, fun i x h => by simp at h⟩
  | x :: l, o, h => by
    obtain ⟨y, hy⟩ := h 0 x rfl
    obtain ⟨l', h1, h2⟩ := choose_list R l (o + 1) (fun i x hx => by
      have := h (i + 1) x (by simpa using hx)
      rwa [show o + (i + 1) = o + 1 + i by omega] at this)
    refine ⟨y :: l', by simp [h1], fun i z hz => ?_⟩
    cases i with
    | zero => simp at hz; subst hz; exact ⟨y, rfl, hy⟩
    | succ i =>
      obtain ⟨w, hw1, hw2⟩ := h2 i z (by simpa using hz)
      exact ⟨w, by simpa using hw1, by rwa [show o + (i + 1) = o + 1 + i by omega]⟩
/-- The fields' kinds, one cell each, in their order. -/
def kindsB (P : Program) (fs : List Field) (ks : List FK) : Bool := fs.length == ks.length && (List.range fs.length).all fun i => match fs[i]?, ks[i]? with | some f, some k => f.offset == i && P.cellsOf f.type == 1 && fkB P f.type k | _, _ => false
theorem open_rows {r : Reach} {b0 base : Nat} {sp : Nat → Bool} {hd : Bool} {t e : TypeId} {fs : Array Field} {ks : List FK} {v : Value} {d : DataW H} {p : List MemPlace} (ht : P.underlying t = some (.slice e)) (he : P.underlying e = some (.struct fs)) (hc : P.cellsOf e = ks.length) (hm : 0 < ks.length) (hkb : kindsB P fs.toList ks = true)
    (hv : Value.okWide P W r b0 t v) (h : DataW.Trod enc P W base sp hd t v d p) : ∃ (E : Nat → List (Ent × Blk)) (vt : Nat → Value) (rows : List (List FD)), ToldR ks.length W v E vt rows ∧ (∀ row ∈ rows, row.length = ks.length ∧ ∀ (c : Nat) (dd : FD) (k : FK), row[c]? = some dd → ks[c]? = some k → FD.ok k dd) ∧ rows.length ≤ maxLen := by
  obtain ⟨a0, l0, c0, rfl⟩ := okWide_slice ht hv
  obtain ⟨fuel, hf⟩ := h
  rcases DataW.trod_slice ht hf with ⟨h0, _⟩ | ⟨a, len, cap, elems, rest, n, _, h0, _, hb, hl, hmx, hlen, hel, _, _⟩
  · have h1 : Value.slice a0 l0 c0 = Value.slice none 0 0 := by simpa [Value.cells] using h0
    rw [h1]
    exact ⟨fun _ => [], fun _ => .slice none 0 0, [], ⟨fun A B x h => (by cases h), fun A B => .one (.plain rfl), fun A B => .inl ⟨none, rfl, rfl⟩⟩, fun n hn => (by cases hn), Nat.zero_le _⟩
  have h1 : Value.slice a0 l0 c0 = Value.slice (some a) len cap := by simpa [Value.cells] using h0
  rw [h1] at hv ⊢
  obtain ⟨hsp, cs, ty, fr, hh⟩ := slice_at ht hv
  obtain ⟨b, off, spot⟩ := a
  simp only at hsp hh
  subst hsp
  generalize hmk : ks.length = m at *
  have hkb2 : fs.toList.length = m ∧ ∀ c, c < m → ∃ f k, fs[c]? = some f ∧ ks[c]? = some k ∧ f.offset = c ∧ P.cellsOf f.type = 1 ∧ fkB P f.type k = true := by
    unfold kindsB at hkb
    rw [Bool.and_eq_true] at hkb
    have hlf : fs.toList.length = m := by rw [← hmk]; simpa using hkb.1
    refine ⟨hlf, fun c hcm => ?_⟩
    have := List.all_eq_true.1 hkb.2 c (by rw [List.mem_range]; omega)
    split at this
    · rename_i f k hf hk
      simp only [Bool.and_eq_true, beq_iff_eq] at this
      exact ⟨f, k, by simpa using hf, hk, this.1.1, this.1.2, this.2⟩
    · cases this
  obtain ⟨hfl, hkf⟩ := hkb2
  have each : ∀ q, q < len * m → ∃ xd : Value × FD, W.cell? ⟨b, off + q, none⟩ = some xd.1 ∧ CellIs W xd.2 xd.1 ∧ ∀ k, ks[q % m]? = some k → FD.ok k xd.2 := by
    intro q hq
    have hi : q / m < len := Nat.div_lt_of_lt_mul (by rw [Nat.mul_comm]; exact hq)
    have hcm : q % m < m := Nat.mod_lt _ hm
    have e1 : q / m * m + q % m = q := by rw [Nat.mul_comm]; exact Nat.div_add_mod q m
    generalize q / m = i at *
    generalize q % m = c at *
    subst e1
    have h2 := hel i hi
    rw [hc, List.getElem?_eq_getElem (show i < elems.length by omega), Option.bind_eq_some_iff] at h2
    obtain ⟨cs', hcs, hy⟩ := h2
    obtain ⟨xs, q', _, _, hl2, hn2, hel2⟩ := DataW.trod_struct he hy
    obtain ⟨f, k, hf1, hk1, ho1, hc1, hk2⟩ := hkf c hcm
    have h3 := hel2 c f hf1
    have hxl : c < xs.length := by rw [hn2]; exact (Array.getElem?_eq_some_iff.1 hf1).1
    rw [ho1, hc1, List.getElem?_eq_getElem hxl] at h3
    rw [hc] at hl2
    have h4 : (cs'.drop c).take 1 = [cs'[c]'(by omega)] := by
      rw [List.drop_eq_getElem_cons (by omega), List.take_succ_cons, List.take_zero]
    rw [h4] at h3
    obtain ⟨dd, hd1, hd2⟩ := open_cell hk2 h3
    have hcell := (World.cells?_some hcs).2.2 c (by omega)
    rw [add_none', add_none', List.getElem?_eq_getElem (by omega)] at hcell
    exact ⟨(cs'[c]'(by omega), dd), by rw [show off + (i * m + c) = off + i * m + c by omega]; exact hcell, hd2, fun k' hk' => by rw [hk1] at hk'; cases hk'; exact hd1⟩
  obtain ⟨X, hX1, hX2⟩ := choose_list (fun q (_ : Nat) (xd : Value × FD) => W.cell? ⟨b, off + q, none⟩ = some xd.1 ∧ CellIs W xd.2 xd.1 ∧ ∀ k, ks[q % m]? = some k → FD.ok k xd.2) (List.range (len * m)) 0 (fun q x hq => by
    have := (List.getElem?_eq_some_iff.1 hq).1
    rw [List.length_range] at this
    rw [Nat.zero_add]
    exact each q this)
  rw [List.length_range] at hX1
  have hX : ∀ q, q < len * m → ∃ xd, X[q]? = some xd ∧ W.cell? ⟨b, off + q, none⟩ = some xd.1 ∧ CellIs W xd.2 xd.1 ∧ ∀ k, ks[q % m]? = some k → FD.ok k xd.2 := fun q hq => by
    obtain ⟨y, hy1, hy2⟩ := hX2 q q (List.getElem?_range hq)
    rw [Nat.zero_add] at hy2
    exact ⟨y, hy1, hy2⟩
  have hT : ∀ n, ∃ T : List (Value × (Ent × Blk)), T.length = X.length ∧ ∀ q xd, X[q]? = some xd → ∃ y, T[q]? = some y ∧ (RoOk W y.2 ∧ (∀ mm : List Ent, mm[n + 1 + q]? = some y.2.1 → V1 mm y.1 xd.1) ∧ ∀ G : AH, hget G (n + 1 + q) = some y.2.2 → xd.2.val G y.1) := by
    intro n
    obtain ⟨T, hT1, hT2⟩ := choose_list (fun q (xd : Value × FD) (y : Value × (Ent × Blk)) => RoOk W y.2 ∧ (∀ mm : List Ent, mm[n + 1 + q]? = some y.2.1 → V1 mm y.1 xd.1) ∧ ∀ G : AH, hget G (n + 1 + q) = some y.2.2 → xd.2.val G y.1) X 0 (fun q xd hq => by
      have hql := (List.getElem?_eq_some_iff.1 hq).1
      obtain ⟨xd', hx1, hx2, hx3, _⟩ := hX q (by omega)
      rw [hq] at hx1
      cases hx1
      rw [Nat.zero_add]
      obtain ⟨u, sub, hs1, hs2, hs3⟩ := tell_cell hx3 hh (n + 1 + q)
      exact ⟨(u, sub), hs1, hs2, hs3⟩)
    exact ⟨T, hT1, fun q xd hq => by have := hT2 q xd hq; rwa [Nat.zero_add] at this⟩
  obtain ⟨T, hT⟩ : ∃ T : Nat → List (Value × (Ent × Blk)), ∀ n, (T n).length = X.length ∧ ∀ q xd, X[q]? = some xd → ∃ y, (T n)[q]? = some y ∧ (RoOk W y.2 ∧ (∀ mm : List Ent, mm[n + 1 + q]? = some y.2.1 → V1 mm y.1 xd.1) ∧ ∀ G : AH, hget G (n + 1 + q) = some y.2.2 → xd.2.val G y.1) :=
    ⟨fun n => (hT n).choose, fun n => (hT n).choose_spec⟩
  have hat : ∀ (A B : List (Ent × Blk)) (q : Nat) (y : Value × (Ent × Blk)), (T A.length)[q]? = some y → (A ++ ((((⟨b, off, 0, none⟩ : Ent), (⟨(T A.length).map (·.1), ty, none⟩ : Blk)) :: (T A.length).map (·.2)) ++ B))[A.length + 1 + q]? = some y.2 := by
    intro A B q y hy
    rw [List.getElem?_append_right (by omega), show A.length + 1 + q - A.length = q + 1 by omega, List.cons_append, List.getElem?_cons_succ, List.getElem?_append_left (by rw [List.length_map]; exact (List.getElem?_eq_some_iff.1 hy).1), List.getElem?_map, hy]
    rfl
  refine ⟨fun n => ((⟨b, off, 0, none⟩ : Ent), (⟨(T n).map (·.1), ty, none⟩ : Blk)) :: (T n).map (·.2), fun n => .slice (some ⟨n, 0, none⟩) len len, (List.range len).map fun i => ((X.drop (i * m)).take m).map (·.2), ⟨fun A B x hx => ?_, fun A B => ?_, fun A B => .inr ⟨A.length, ⟨(T A.length).map (·.1), ty, none⟩, by simp, ?_, by simp [(hT A.length).1, hX1], fun i row hr => ?_⟩⟩, fun row hr => ?_, by simp; omega⟩
  · rcases List.mem_cons.1 hx with rfl | hx
    · refine ⟨(Array.getElem?_eq_some_iff.1 hh).1, rfl, cs, fr, hh, fun j u hu => ?_⟩
      rw [List.getElem?_map] at hu
      cases hty : (T A.length)[j]? with
      | none => rw [hty] at hu; cases hu
      | some y =>
        rw [hty] at hu
        cases hu
        have hjl : j < len * m := by rw [← hX1, ← (hT A.length).1]; exact (List.getElem?_eq_some_iff.1 hty).1
        obtain ⟨xd, hx1, hx2, _, _⟩ := hX j hjl
        obtain ⟨y', hy1, _, hy3, _⟩ := (hT A.length).2 j xd hx1
        rw [hty] at hy1
        cases hy1
        simp only [World.cell?, hh] at hx2
        refine ⟨xd.1, by simpa using hx2, hy3 _ ?_⟩
        rw [List.getElem?_map, hat A B j y hty]
        rfl
    · obtain ⟨y, hy, rfl⟩ := List.mem_map.1 hx
      obtain ⟨q, hq, rfl⟩ := List.mem_iff_getElem.1 hy
      obtain ⟨xd, hx1, _⟩ := hX q (by rw [← hX1, ← (hT A.length).1]; exact hq)
      obtain ⟨y', hy1, hy2, _⟩ := (hT A.length).2 q xd hx1
      rw [List.getElem?_eq_getElem hq] at hy1
      cases hy1
      exact hy2.ro _
  · have := V1.sl (m := (A ++ ((((⟨b, off, 0, none⟩ : Ent), (⟨(T A.length).map (·.1), ty, none⟩ : Blk)) :: (T A.length).map (·.2)) ++ B)).map (·.1)) (i := A.length) (off := 0) (len := len) (c := cap) (e := ⟨b, off, 0, none⟩) (by simp) hl (fun _ s hs => by cases hs)
    exact .one this
  · unfold hget; simp
  · rw [List.getElem?_map] at hr
    have hi : i < len := by
      rcases Nat.lt_or_ge i len with h | h
      · exact h
      · rw [List.getElem?_eq_none (by simpa using h)] at hr; cases hr
    rw [List.getElem?_range hi] at hr
    simp only [Option.map_some, Option.some.injEq] at hr
    subst hr
    have h7 : (i + 1) * m ≤ len * m := Nat.mul_le_mul_right _ hi
    rw [Nat.add_mul] at h7
    refine ⟨by simp; omega, fun c d hd => ?_⟩
    have hcm : c < m := by
      have := (List.getElem?_eq_some_iff.1 hd).1
      simp at this
      omega
    rw [List.getElem?_map, List.getElem?_take_of_lt hcm, List.getElem?_drop] at hd
    obtain ⟨xd, hx1, _⟩ := hX (i * m + c) (by omega)
    rw [hx1] at hd
    cases hd
    obtain ⟨y, hy1, _, _, hy4⟩ := (hT A.length).2 _ xd hx1
    refine ⟨y.1, by rw [List.getElem?_map, hy1]; rfl, hy4 _ ?_⟩
    unfold hget
    rw [List.getElem?_map, hat A B _ y hy1]
    rfl
  · obtain ⟨i, hi, rfl⟩ := List.mem_map.1 hr
    have hi : i < len := by simpa using hi
    have h7 : (i + 1) * m ≤ len * m := Nat.mul_le_mul_right _ hi
    rw [Nat.add_mul] at h7
    refine ⟨by simp; omega, fun c dd k hd hk => ?_⟩
    have hcm : c < m := by
      have := (List.getElem?_eq_some_iff.1 hd).1
      simp at this
      omega
    rw [List.getElem?_map, List.getElem?_take_of_lt hcm, List.getElem?_drop] at hd
    obtain ⟨xd, hx1, _, _, hx4⟩ := hX (i * m + c) (by omega)
    rw [hx1] at hd
    cases hd
    refine hx4 k ?_
    rw [Nat.mul_comm, Nat.mul_add_mod, Nat.mod_eq_of_lt hcm]
    exact hk
end
end Go.Proofs.Ytcdkpeepboofhaa
