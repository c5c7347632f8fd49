/-
  Operations that make or write memory, of the machine: new blocks, stores. Over any program.
-/
import Derived.Test.YtjfhdckcjkgjnaaDoorXt
namespace Go.Proofs.YtjfhdckcjkgjnaaDoor
open Go Go.RowKit
set_option linter.unusedVariables false
section
variable {P : Program} {nro n base : Nat} {γ : Nat → Option Nat} {m : List Ent} {H : AH} {α : Fm} {a : Act} {w : World}

theorem app_one {β : Type} {l : List β} {x y : β} {i : Nat} (h : (l ++ [x])[i]? = some y) : (i < l.length ∧ l[i]? = some y) ∨ (i = l.length ∧ y = x) := by
  rcases Nat.lt_or_ge i l.length with hi | hi
  · left; rw [List.getElem?_append_left hi] at h; exact ⟨hi, h⟩
  · right
    rw [List.getElem?_append_right hi] at h
    have h0 : i - l.length = 0 := by
      rcases Nat.eq_zero_or_pos (i - l.length) with h0 | h0
      · exact h0
      · rw [List.getElem?_eq_none (by simp; omega)] at h; cases h
    rw [h0] at h
    cases h
    exact ⟨by omega, rfl⟩
theorem pre_app (m : List Ent) (e : Ent) : m <+: m ++ [e] := List.prefix_append m [e]

/-- One block more. -/
theorem Rel.add (hR : Rel nro base γ m H w) {w' : World} (hsz : w.heap.size ≤ w'.heap.size) (hold : ∀ (i : Nat) (k : Blk) (e : Ent), H[i]? = some (some k) → m[i]? = some e → w'.heap[e.b]? = w.heap[e.b]?)
    {b : Nat} {cs : Array Value} {ty : TypeId} {fr : Nat × Nat} {es : Option Nat} {cells : List Value} (hb : base ≤ b) (hnew : w'.heap[b]? = some (.cells cs ty fr))
    (hfr : ∀ o, o < cs.size → ¬ (fr.1 ≤ o ∧ o < fr.2)) (hfr0 : es.isSome = true → fr = (0, 0))
    (hap : ∀ (i : Nat) (k : Blk) (e : Ent), nro ≤ i → H[i]? = some (some k) → m[i]? = some e → e.b ≠ b)
    (hc : ∀ (j : Nat) (x : Value), cells[j]? = some x → ∃ y, cs[j]? = some y ∧ V1 (m ++ [⟨b, 0, cs.size, es⟩]) x y) :
    Rel nro base γ (m ++ [⟨b, 0, cs.size, es⟩]) (H ++ [some ⟨cells, ty, es⟩]) w' := by
  have hbs : b < w'.heap.size := (Array.getElem?_eq_some_iff.1 hnew).1
  have hpre := pre_app m ⟨b, 0, cs.size, es⟩
  refine ⟨by simp [hR.len], by have := hR.le; simp; omega, Nat.le_trans hR.base_le hsz, ?_, ?_, ?_, ?_, ?_, ?_⟩
  · intro i e he
    rcases app_one he with ⟨_, he⟩ | ⟨_, rfl⟩
    · exact Nat.lt_of_lt_of_le (hR.inb i e he) hsz
    · exact hbs
  · intro i e hi he
    rcases app_one he with ⟨_, he⟩ | ⟨h0, rfl⟩
    · exact hR.ro i e hi he
    · have h1 := hR.le; have h2 := hR.len; omega
  · intro i e hi he
    rcases app_one he with ⟨_, he⟩ | ⟨_, rfl⟩
    · exact hR.own i e hi he
    · exact ⟨hb, rfl⟩
  · intro i k e hk he
    rcases app_one hk with ⟨hlt, hk⟩ | ⟨h0, hk⟩
    · rw [List.getElem?_append_left (by rw [hR.len]; exact hlt)] at he
      obtain ⟨cs0, fr0, h1, h2, h3, h4, h5⟩ := hR.cells i k e hk he
      exact ⟨cs0, fr0, (hold i k e hk he).trans h1, h2, h3, h4, fun j x hx => let ⟨y, p, q⟩ := h5 j x hx; ⟨y, p, q.mono hpre⟩⟩
    · cases hk
      rcases app_one he with ⟨hlt, he⟩ | ⟨_, rfl⟩
      · have := hR.len; omega
      · exact ⟨cs, fr, hnew, fun _ => rfl, rfl, fun _ => ⟨hfr, hfr0⟩, fun j x hx => let ⟨y, p, q⟩ := hc j x hx; ⟨y, by simpa using p, q⟩⟩
  · intro i j ki kj ei ej hi hj hne hki hkj hei hej
    rcases app_one hki with ⟨hil, hki⟩ | ⟨hi0, hki⟩
    · rw [List.getElem?_append_left (by rw [hR.len]; exact hil)] at hei
      rcases app_one hkj with ⟨hjl, hkj⟩ | ⟨hj0, hkj⟩
      · rw [List.getElem?_append_left (by rw [hR.len]; exact hjl)] at hej
        exact hR.apart i j ki kj ei ej hi hj hne hki hkj hei hej
      · rcases app_one hej with ⟨hlt, hej⟩ | ⟨_, rfl⟩
        · have := hR.len; omega
        · exact hap i ki ei hi hki hei
    · rcases app_one hkj with ⟨hjl, hkj⟩ | ⟨hj0, hkj⟩
      · rw [List.getElem?_append_left (by rw [hR.len]; exact hjl)] at hej
        rcases app_one hei with ⟨hlt, hei⟩ | ⟨_, rfl⟩
        · have := hR.len; omega
        · exact fun h => hap j kj ej hj hkj hej h.symm
      · omega
  · intro g i hg
    obtain ⟨e, h1, h2⟩ := hR.glob g i hg
    exact ⟨e, pre_get hpre h1, h2⟩
theorem Rel.alloc (hR : Rel nro base γ m H w) (cs : Array Value) (ty : TypeId) (es : Option Nat) {cells : List Value} (hc : Vs m cells cs.toList) :
    Rel nro base γ (m ++ [⟨w.heap.size, 0, cs.size, es⟩]) (H ++ [some ⟨cells, ty, es⟩]) (w.alloc (.cells cs ty)) := by
  refine hR.add (by simp) (fun i k e hk he => Below.heap_alloc _ _ _ (hR.inb i e he)) hR.base_le (heap_alloc_new w _) (fun o _ h => by simp at h) (fun _ => rfl) (fun i k e _ _ he h => ?_) (fun j x hx => ?_)
  · have := hR.inb i e he; omega
  · obtain ⟨y, h1, h2⟩ := hc.2 j x hx
    exact ⟨y, by simpa using h1, h2.mono (pre_app _ _)⟩
/-- A block forgotten. -/
theorem Rel.kill (hR : Rel nro base γ m H w) (i : Nat) : Rel nro base γ m (H.set i none) w := by
  have hs : ∀ (j : Nat) (k : Blk), (H.set i none)[j]? = some (some k) → H[j]? = some (some k) ∧ j ≠ i := by
    intro j k h
    by_cases e : i = j
    · subst e
      rcases Nat.lt_or_ge i H.length with hl | hl
      · rw [List.getElem?_set_self hl] at h; cases h
      · rw [List.getElem?_eq_none (by simpa using hl)] at h; cases h
    · rw [List.getElem?_set_ne e] at h; exact ⟨h, Ne.symm e⟩
  exact ⟨by simp [hR.len], by simpa using hR.le, hR.base_le, hR.inb, hR.ro, hR.own, fun j k e hk he => hR.cells j k e (hs j k hk).1 he,
    fun i' j ki kj ei ej hi hj hne hki hkj hei hej => hR.apart i' j ki kj ei ej hi hj hne (hs _ _ hki).1 (hs _ _ hkj).1 hei hej, hR.glob⟩
/-- A block written anew, where it lies. -/
theorem Rel.write (hR : Rel nro base γ m H w) {i : Nat} {k : Blk} {e : Ent} (hi : nro ≤ i) (hk : H[i]? = some (some k)) (he : m[i]? = some e) {w' : World} (hsz : w'.heap.size = w.heap.size)
    (hold : ∀ b, b ≠ e.b → w'.heap[b]? = w.heap[b]?) {cs : Array Value} {fr : Nat × Nat} (hnew : w'.heap[e.b]? = some (.cells cs k.ty fr)) (hcs : cs.size = e.sz)
    (hfr : ∀ o, o < cs.size → ¬ (fr.1 ≤ o ∧ o < fr.2)) (hfr0 : k.es.isSome = true → fr = (0, 0)) {cells : List Value} (hc : ∀ (j : Nat) (x : Value), cells[j]? = some x → ∃ y, cs[j]? = some y ∧ V1 m x y) :
    Rel nro base γ m (H.set i (some ⟨cells, k.ty, k.es⟩)) w' := by
  have hil : i < H.length := (List.getElem?_eq_some_iff.1 hk).1
  have hown := hR.own i e hi he
  have hs : ∀ (j : Nat) (q : Blk), (H.set i (some ⟨cells, k.ty, k.es⟩))[j]? = some (some q) → (j = i ∧ q = ⟨cells, k.ty, k.es⟩) ∨ (j ≠ i ∧ H[j]? = some (some q)) := by
    intro j q h
    by_cases ej : i = j
    · subst ej
      rw [List.getElem?_set_self hil] at h
      cases h; exact .inl ⟨rfl, rfl⟩
    · rw [List.getElem?_set_ne ej] at h; exact .inr ⟨Ne.symm ej, h⟩
  refine ⟨by simp [hR.len], by simpa using hR.le, by rw [hsz]; exact hR.base_le, fun j e' he' => by rw [hsz]; exact hR.inb j e' he', hR.ro, hR.own, ?_, ?_, hR.glob⟩
  · intro j q e' hq he'
    rcases hs j q hq with ⟨rfl, rfl⟩ | ⟨hne, hq⟩
    · rw [he] at he'
      cases he'
      obtain ⟨cs0, fr0, _, _, h3, _, _⟩ := hR.cells j k e hk he
      exact ⟨cs, fr, hnew, fun _ => hcs, h3, fun _ => ⟨hfr, hfr0⟩, fun j x hx => let ⟨y, p, q⟩ := hc j x hx; ⟨y, by rw [hown.2]; simpa using p, q⟩⟩
    · obtain ⟨cs0, fr0, h1, h2⟩ := hR.cells j q e' hq he'
      have hb : e'.b ≠ e.b := by
        rcases Nat.lt_or_ge j nro with hj | hj
        · have := hR.ro j e' hj he'; omega
        · exact hR.apart j i q k e' e hj hi hne hq hk he' he
      exact ⟨cs0, fr0, (hold _ hb).trans h1, h2⟩
  · intro j1 j2 k1 k2 e1 e2 h1 h2 hne hk1 hk2 he1 he2
    have h1' : ∃ q, H[j1]? = some (some q) := by rcases hs j1 k1 hk1 with ⟨rfl, _⟩ | ⟨_, h⟩; exact ⟨k, hk⟩; exact ⟨_, h⟩
    have h2' : ∃ q, H[j2]? = some (some q) := by rcases hs j2 k2 hk2 with ⟨rfl, _⟩ | ⟨_, h⟩; exact ⟨k, hk⟩; exact ⟨_, h⟩
    obtain ⟨q1, hq1⟩ := h1'
    obtain ⟨q2, hq2⟩ := h2'
    exact hR.apart j1 j2 q1 q2 e1 e2 h1 h2 hne hq1 hq2 he1 he2
theorem V1.oneCell {x y : Value} (h : V1 m x y) : y.oneCell' = true := by
  cases h with
  | plain h => cases x <;> first | rfl | cases h
  | ptr _ => rfl
  | sl _ _ _ => rfl
  | slv _ _ => rfl
  | sl0 => rfl
  | clo _ _ _ _ => rfl
/-- Cells stored one behind the other, into one block. -/
theorem storeCells_rel {i : Nat} {e : Ent} (hi : nro ≤ i) (he : m[i]? = some e) : ∀ (xs ys : List Value) (off idx : Nat) (H : AH) (w : World) (k : Blk), Vs m xs ys → Rel nro base γ m H w → H[i]? = some (some k) → off + idx + xs.length ≤ k.cells.length →
    ∃ w', (storeCells ⟨e.b, off, none⟩ ys idx).run P w = .ok () w' ∧ Rel nro base γ m (H.set i (some ⟨setR k.cells (off + idx) xs, k.ty, k.es⟩)) w' ∧ Below base w w' := by
  intro xs
  induction xs with
  | nil =>
    intro ys off idx H w k hv hR hk _
    have : ys = [] := List.eq_nil_of_length_eq_zero hv.1
    subst this
    have e1 : H.set i (some ⟨setR k.cells (off + idx) [], k.ty, k.es⟩) = H := by
      rw [setR]
      obtain ⟨h1, h2⟩ := List.getElem?_eq_some_iff.1 hk
      have h3 := List.set_getElem_self h1
      rw [h2] at h3
      exact h3
    rw [e1]
    exact ⟨w, rfl, hR, .refl _ _⟩
  | cons x xs ih =>
    intro ys off idx H w k hv hR hk hl
    cases ys with
    | nil => have h0 := hv.1; cases h0
    | cons y ys =>
      simp only [List.length_cons] at hl
      obtain ⟨y', hy', hxy⟩ := hv.2 0 x rfl
      cases hy'
      obtain ⟨cs, fr, h1, h2, h3, h4, h5⟩ := hR.cells i k e hk he
      have ho := hR.own i e hi he
      obtain ⟨x0, hx0⟩ : ∃ x0, k.cells[off + idx]? = some x0 := ⟨_, List.getElem?_eq_getElem (by omega)⟩
      obtain ⟨z, hz, _⟩ := h5 _ _ hx0
      rw [ho.2, Nat.zero_add] at hz
      have hlt : off + idx < cs.size := (Array.getElem?_eq_some_iff.1 hz).1
      have hfz : w.frozen? ⟨e.b, off + idx, none⟩ = false := by
        have := (h4 hi).1 (off + idx) hlt
        simp only [World.frozen?, h1]
        simp only [Bool.and_eq_false_iff, decide_eq_false_iff_not]
        omega
      have hst : (store ((⟨e.b, off, none⟩ : Addr).add idx) y).run P w = .ok () (w.setCell ⟨e.b, off + idx, none⟩ y) := by
        rw [add_none, run_store P w _ y _ hxy.oneCell]
        have hcell : w.cell? ⟨e.b, off + idx, none⟩ = some z := by simp [World.cell?, h1, hz]
        rw [hcell]
        simp [hfz]
      have hh : (w.setCell ⟨e.b, off + idx, none⟩ y).heap[e.b]? = some (.cells (cs.setIfInBounds (off + idx) y) k.ty fr) := by
        rw [setCell_eq_setRow w e.b (off + idx) cs k.ty fr y h1]
        exact setRow_heap w e.b cs _ k.ty fr h1
      have hR1 : Rel nro base γ m (H.set i (some ⟨k.cells.set (off + idx) x, k.ty, k.es⟩)) (w.setCell ⟨e.b, off + idx, none⟩ y) := by
        refine hR.write hi hk he (by simp [World.setCell]) (fun b hb => Below.heap_setCell _ _ _ _ hb) hh (by simp [h2 hi]) (by simpa using (h4 hi).1) (h4 hi).2 (fun j x' hx' => ?_)
        by_cases ej : off + idx = j
        · subst ej
          rw [List.getElem?_set_self (by omega)] at hx'
          cases hx'
          exact ⟨y, by simp [hlt], hxy⟩
        · rw [List.getElem?_set_ne ej] at hx'
          obtain ⟨y', p, q⟩ := h5 j x' hx'
          rw [ho.2, Nat.zero_add] at p
          exact ⟨y', by rw [Array.getElem?_setIfInBounds, if_neg ej]; exact p, q⟩
      have hil : i < H.length := (List.getElem?_eq_some_iff.1 hk).1
      obtain ⟨w', hr, hR', hb'⟩ := ih ys off (idx + 1) _ _ ⟨k.cells.set (off + idx) x, k.ty, k.es⟩ ⟨by simpa using hv.1, fun j x hj => hv.2 (j + 1) x (by simpa using hj)⟩ hR1 (List.getElem?_set_self hil) (by simp; omega)
      refine ⟨w', ?_, ?_, (Below.setCell (.refl _ _) ho.1 y).trans hb'⟩
      · simp only [storeCells, Sem.run_bind, hst, Result.andThen_ok]
        exact hr
      · rw [List.set_set] at hR'
        rw [setR, show off + idx + 1 = off + (idx + 1) by omega]
        exact hR'
theorem storeAt_run (hR : Rel nro base γ m H w) {t : TypeId} {i off : Nat} {k : Blk} {p' x x' : Value} (hp : V m (.pointer (some ⟨i, off, none⟩)) p') (hx : V m x x') (hi : nro ≤ i) (hk : hget H i = some k) (hn : notTuple x = true)
    (hs : x.cells.toList.length = szt P t) (h0 : 0 < szt P t) (hl : off + szt P t ≤ k.cells.length) :
    ∃ w', (Instr.storeAt t p' x').run P w = .ok () w' ∧ Rel nro base γ m (H.set i (some ⟨setR k.cells off x.cells.toList, k.ty, k.es⟩)) w' ∧ Below base w w' := by
  obtain ⟨e, he, rfl⟩ := hp.ptr_
  have ho := hR.own i e hi he
  obtain ⟨hc, hsz⟩ := (hx.v2 hn).cells hn
  obtain ⟨w', h1, h2, h3⟩ := storeCells_rel (P := P) hi he x.cells.toList x'.cells.toList off 0 H w k hc hR (hget_some hk) (by omega)
  refine ⟨w', ?_, h2, h3⟩
  rw [ho.2, Nat.zero_add]
  have hss : x'.cells.size = szt P t := by rw [hsz, ← hs]; simp
  simp [Instr.storeAt, Instr.sureAddr, storeVar, run_sizeOf h0, hss, h1]
theorem run_zero {t : TypeId} {z : Value} (h : zer P t = some z) (w : World) : (zeroValue t).run P w = .ok z w := by
  unfold zer at h
  cases hi : P.info? t with
  | none => rw [hi] at h; cases h
  | some it =>
    rw [hi] at h
    have h' : it.zero = some z := h
    simp [zeroValue, typeInfo, hi, h']
end
end Go.Proofs.YtjfhdckcjkgjnaaDoor
