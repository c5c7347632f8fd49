/-
  A slice of arrays of integers that comes in: its block, only read. Over any program.
-/
import Derived.Test.YtcdkpeepboofhaaXop
namespace Go.Proofs.Ytcdkpeepboofhaa
open Go Go.RowKit Go.ChangeShapes Go.WideShapes Go.ChangeAt
set_option linter.unusedVariables false

/-- A slice value that shows these rows, each of sz integers. -/
def SlK (sz : Nat) (kd : IntKind) (H : AH) (v : Value) (ks : List (List Int)) : Prop :=
  (∃ a, v = .slice a 0 0 ∧ ks = []) ∨ ∃ j k, v = .slice (some ⟨j, 0, none⟩) ks.length ks.length ∧ hget H j = some k ∧ ks.length * sz ≤ k.cells.length ∧ ∀ i key, ks[i]? = some key → (k.cells.drop (i * sz)).take sz = iv kd key
theorem SlK.low {sz : Nat} {kd : IntKind} {H H' : AH} {v : Value} {ks : List (List Int)} (h : SlK sz kd H v ks) (hl : ∀ j, j < H.length → hget H' j = hget H j) : SlK sz kd H' v ks := by
  rcases h with h | ⟨j, k, h1, h2, h3⟩
  · exact .inl h
  · exact .inr ⟨j, k, h1, by rw [hl j (hget_lt h2)]; exact h2, h3⟩
theorem SlK.len {P : Program} {sz : Nat} {kd : IntKind} {H : AH} {v : Value} {ks : List (List Int)} {t e : TypeId} (h : SlK sz kd H v ks) (ht : und P t = .slice e) : xlen P t v = some (.int .i64 ks.length) := by
  rcases h with ⟨a, rfl, rfl⟩ | ⟨j, k, rfl, _⟩
  · simp [xlen, ht]
  · simp [xlen, ht]
theorem SlK.at {P : Program} {sz : Nat} {kd : IntKind} {H : AH} {v : Value} {ks : List (List Int)} {t e : TypeId} (h : SlK sz kd H v ks) (ht : und P t = .slice e) (hs : szt P e = sz) (h0 : 0 < sz) (hd : isAggD (und P e) = true) {i : Nat} {key : List Int} (hi : ks[i]? = some key) :
    ∃ p, xindexAddr P t v (.int .i64 (i : Nat)) = some p ∧ ∀ H' : AH, (∀ j, j < H.length → hget H' j = hget H j) → xload P e p H' = some (.agg (iv kd key).toArray) := by
  have hil : i < ks.length := (List.getElem?_eq_some_iff.1 hi).1
  rcases h with ⟨a, rfl, rfl⟩ | ⟨j, b, rfl, hb, hc, hk⟩
  · simp at hi
  · refine ⟨.pointer (some ⟨j, i * sz, none⟩), ?_, fun H' hl => ?_⟩
    · unfold xindexAddr
      simp only [ht, hs]
      rw [if_pos ⟨by omega, by omega, h0⟩]
      simp
    · unfold xload
      have h2 : i * sz + sz ≤ b.cells.length := by
        have : (i + 1) * sz ≤ ks.length * sz := Nat.mul_le_mul_right _ hil
        rw [Nat.add_mul] at this
        omega
      simp only [hl j (hget_lt hb), hb, hd, hs, if_true]
      rw [if_pos ⟨h0, h2⟩, hk i key hi]
/-- What is told of such a slice. -/
structure ToldK (sz : Nat) (kd : IntKind) (W : World) (v : Value) (E : List (Ent × Blk)) (vt : Nat → Value) (ks : List (List Int)) : Prop where
  ro : ∀ x ∈ E, RoOk W x
  le : E.length ≤ 1
  rel : ∀ (A B : List (Ent × Blk)), V ((A ++ (E ++ B)).map (·.1)) (vt A.length) v
  sl : ∀ (A B : List (Ent × Blk)), SlK sz kd ((A ++ (E ++ B)).map fun x => some x.2) (vt A.length) ks
section
variable {P : Program} {W : World} {H : Type} {enc : TypeId × Value → H}
theorem open_kslice {r : Reach} {b0 base : Nat} {sp : Nat → Bool} {hd : Bool} {t e e0 : TypeId} {m : Nat} {kd : IntKind} {v : Value} {d : DataW H} {p : List MemPlace} (ht : P.underlying t = some (.slice e)) (he : P.underlying e = some (.array m e0)) (he0 : P.underlying e0 = some (.int kd)) (hc0 : P.cellsOf e0 = 1) (hc : P.cellsOf e = m) (hm : 0 < m)
    (hv : Value.okWide P W r b0 t v) (h : DataW.Trod enc P W base sp hd t v d p) : ∃ (E : List (Ent × Blk)) (vt : Nat → Value) (ks : List (List Int)), ToldK m kd W v E vt ks ∧ (∀ key ∈ ks, key.length = m ∧ ∀ x ∈ key, (Lit.int kd x).wf = true) ∧ ks.length ≤ maxLen := by
  obtain ⟨a0, l0, c0, rfl⟩ := okWide_slice ht hv
  obtain ⟨fuel, hf⟩ := h
  rcases DataW.trod_slice ht hf with ⟨h0, _⟩ | ⟨a, len, cap, elems, rest, n, _, h0, _, hb, hl, hmx, hlen, hel, _, _⟩
  · have h1 : Value.slice a0 l0 c0 = Value.slice none 0 0 := by simpa [Value.cells] using h0
    rw [h1]
    exact ⟨[], fun _ => .slice none 0 0, [], ⟨fun x h => (by cases h), by simp, fun A B => .one (.plain rfl), fun A B => .inl ⟨none, rfl, rfl⟩⟩, fun n hn => (by cases hn), Nat.zero_le _⟩
  · have h1 : Value.slice a0 l0 c0 = Value.slice (some a) len cap := by simpa [Value.cells] using h0
    rw [h1] at hv ⊢
    obtain ⟨hsp, cs, ty, fr, hh⟩ := slice_at ht hv
    obtain ⟨b, off, spot⟩ := a
    simp only at hsp hh
    subst hsp
    have each : ∀ i, i < len → ∃ key : List Int, key.length = m ∧ (∀ x ∈ key, (Lit.int kd x).wf = true) ∧ ∀ j, j < m → W.cell? ⟨b, off + (i * m + j), none⟩ = some (.int kd (key.getD j 0)) := by
      intro i hi
      have h2 := hel i hi
      rw [hc, List.getElem?_eq_getElem (show i < elems.length by omega), Option.bind_eq_some_iff] at h2
      obtain ⟨cs', hcs, hy⟩ := h2
      obtain ⟨xs, q, rfl, _, hl2, hn2, hel2⟩ := DataW.trod_array he hy
      rw [hc] at hl2
      have hall : ∀ j, j < m → ∃ x, cs'[j]? = some (.int kd x) ∧ (Lit.int kd x).wf = true := by
        intro j hj
        have h3 := hel2 j hj
        rw [hc0, List.getElem?_eq_getElem (show j < xs.length by omega)] at h3
        obtain ⟨x, hx1, _, hw⟩ := DataW.trod_int he0 h3
        refine ⟨x, ?_, hw⟩
        have h4 := congrArg (fun l : List Value => l[0]?) hx1
        simpa [List.getElem?_take, List.getElem?_drop] using h4
      have hcell := (World.cells?_some hcs).2.2
      refine ⟨cs'.map num, by simpa using hl2, fun x hx => ?_, fun j hj => ?_⟩
      · obtain ⟨y, hy2, rfl⟩ := List.mem_map.1 hx
        obtain ⟨j, hj, rfl⟩ := List.mem_iff_getElem.1 hy2
        obtain ⟨x, hx1, hw⟩ := hall j (by omega)
        rw [List.getElem?_eq_getElem hj] at hx1
        rw [Option.some.inj hx1]
        exact hw
      · obtain ⟨x, hx1, _⟩ := hall j hj
        have h5 := hcell j hj
        rw [add_none', add_none'] at h5
        rw [show off + (i * m + j) = off + i * m + j by omega, h5, hx1]
        simp [hx1, num]
    let f : Nat → List Int := fun i => if h : i < len then (each i h).choose else []
    have hf1 : ∀ i, i < len → (f i).length = m ∧ (∀ x ∈ f i, (Lit.int kd x).wf = true) ∧ ∀ j, j < m → W.cell? ⟨b, off + (i * m + j), none⟩ = some (.int kd ((f i).getD j 0)) := by
      intro i hi
      have := (each i hi).choose_spec
      simp only [f, hi, dif_pos]
      exact this
    let xs : List Value := (List.range (len * m)).map fun i => .int kd ((f (i / m)).getD (i % m) 0)
    have hxl : xs.length = len * m := by simp [xs]
    have hxs : ∀ i x, xs[i]? = some x → W.cell? ⟨b, off + i, none⟩ = some x ∧ plain1 x = true := by
      intro i x hx
      have hi : i < len * m := by rw [← hxl]; exact (List.getElem?_eq_some_iff.1 hx).1
      have hq : i / m < len := Nat.div_lt_of_lt_mul (by rw [Nat.mul_comm]; exact hi)
      have hr : i % m < m := Nat.mod_lt _ hm
      have h6 := (hf1 (i / m) hq).2.2 (i % m) hr
      have e1 : i / m * m + i % m = i := by rw [Nat.mul_comm]; exact Nat.div_add_mod i m
      rw [e1] at h6
      simp only [xs, List.getElem?_map, List.getElem?_range hi, Option.map_some, Option.some.injEq] at hx
      rw [← hx]
      exact ⟨h6, rfl⟩
    refine ⟨[(⟨b, off, 0, none⟩, ⟨xs, ty, none⟩)], fun n => .slice (some ⟨n, 0, none⟩) len len, (List.range len).map f, ⟨fun x hxm => ?_, by simp, fun A B => ?_, fun A B => .inr ⟨A.length, ⟨xs, ty, none⟩, by simp, ?_, by simp [hxl], fun i key hk => ?_⟩⟩, fun key hk => ?_, by simp; omega⟩
    · rw [List.mem_singleton] at hxm
      subst hxm
      refine ⟨(Array.getElem?_eq_some_iff.1 hh).1, rfl, cs, fr, hh, fun j v hv => ?_⟩
      have := hxs j v hv
      simp only [World.cell?, hh] at this
      simpa using this
    · have := V1.sl (m := (A ++ ([((⟨b, off, 0, none⟩ : Ent), (⟨xs, ty, none⟩ : Blk))] ++ B)).map (·.1)) (i := A.length) (off := 0) (len := len) (c := cap) (e := ⟨b, off, 0, none⟩) (by simp) hl (fun _ s hs => by cases hs)
      exact .one this
    · unfold hget; simp
    · rw [List.getElem?_map] at hk
      have hi : i < len := by
        rcases Nat.lt_or_ge i len with h | h
        · exact h
        · rw [List.getElem?_eq_none (by simpa using h)] at hk; cases hk
      rw [List.getElem?_range hi] at hk
      simp only [Option.map_some, Option.some.injEq] at hk
      subst hk
      have h7 : (i + 1) * m ≤ len * m := Nat.mul_le_mul_right _ hi
      rw [Nat.add_mul] at h7
      apply List.ext_getElem?
      intro j
      rcases Nat.lt_or_ge j m with hj | hj
      · have e1 : (i * m + j) / m = i := by rw [Nat.mul_comm, Nat.mul_add_div hm, Nat.div_eq_of_lt hj, Nat.add_zero]
        have e2 : (i * m + j) % m = j := by rw [Nat.mul_comm, Nat.mul_add_mod, Nat.mod_eq_of_lt hj]
        rw [List.getElem?_take_of_lt hj, List.getElem?_drop, iv_getN kd _ j (by rw [(hf1 i hi).1]; exact hj)]
        show ((List.range (len * m)).map _)[i * m + j]? = _
        rw [List.getElem?_map, List.getElem?_range (by omega)]
        simp only [Option.map_some, e1, e2]
      · rw [List.getElem?_eq_none (by simp; omega), List.getElem?_eq_none (by rw [iv_length, (hf1 i hi).1]; exact hj)]
    · obtain ⟨i, hi, rfl⟩ := List.mem_map.1 hk
      have hi : i < len := by simpa using hi
      exact ⟨(hf1 i hi).1, (hf1 i hi).2.1⟩
end
end Go.Proofs.Ytcdkpeepboofhaa
