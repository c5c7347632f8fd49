/-
  Parts laid into cells: an aggregate that is built. Over any program.
-/
import Derived.Test.YtjfhdckcjkgjnaaDoorXs
namespace Go.Proofs.YtjfhdckcjkgjnaaDoor
open Go Go.RowKit
set_option linter.unusedVariables false

/-- Cells laid over others from a place on. -/
def setR : List Value → Nat → List Value → List Value
  | cells, _, [] => cells
  | cells, off, x :: r => setR (cells.set off x) (off + 1) r
theorem setR_one (cells : List Value) (off : Nat) (x : Value) : setR cells off [x] = cells.set off x := rfl
@[simp] theorem setR_length (xs : List Value) : ∀ (cells : List Value) (off : Nat), (setR cells off xs).length = cells.length := by
  induction xs with
  | nil => intro cells off; rfl
  | cons x xs ih => intro cells off; rw [setR, ih, List.length_set]
theorem setR_get (xs : List Value) : ∀ (cells : List Value) (off j : Nat), off + xs.length ≤ cells.length → (setR cells off xs)[j]? = if off ≤ j ∧ j < off + xs.length then xs[j - off]? else cells[j]? := by
  induction xs with
  | nil =>
    intro cells off j _
    rw [if_neg (by simp)]
    rfl
  | cons x xs ih =>
    intro cells off j h
    simp only [List.length_cons] at h
    rw [setR, ih _ _ _ (by rw [List.length_set]; omega)]
    by_cases h1 : off + 1 ≤ j ∧ j < off + 1 + xs.length
    · rw [if_pos h1, if_pos (by simp only [List.length_cons]; omega), show j - off = (j - (off + 1)) + 1 by omega, List.getElem?_cons_succ]
    · rw [if_neg h1]
      by_cases h2 : j = off
      · subst h2
        rw [if_pos (by simp only [List.length_cons]; omega), Nat.sub_self, List.getElem?_cons_zero, List.getElem?_set_self (by omega)]
      · rw [if_neg (by simp only [List.length_cons]; omega), List.getElem?_set_ne (by omega)]
theorem setR_all (cells xs : List Value) (h : xs.length = cells.length) : setR cells 0 xs = xs := by
  apply List.ext_getElem?
  intro j
  rw [setR_get _ _ _ _ (by omega)]
  by_cases hj : j < xs.length
  · rw [if_pos (by omega), Nat.sub_zero]
  · rw [if_neg (by omega), List.getElem?_eq_none (by omega), List.getElem?_eq_none (by omega)]
theorem setR_app (xs ys : List Value) : ∀ (cells : List Value) (off : Nat), setR cells off (xs ++ ys) = setR (setR cells off xs) (off + xs.length) ys := by
  induction xs with
  | nil => intro cells off; simp [setR]
  | cons x xs ih => intro cells off; simp only [List.cons_append, setR, ih, List.length_cons]; congr 1; omega

/-- Parts laid into cells. -/
def xfill (place : Nat → Option (Nat × Nat)) : List Value → List (Nat × Value) → Option (List Value)
  | cells, [] => some cells
  | cells, (i, v) :: rest =>
    match place i with
    | none => none
    | some (off, size) => if v.cells.size = size ∧ off + v.cells.size ≤ cells.length then xfill place (setR cells off v.cells.toList) rest else none
def notTuple : Value → Bool | .tuple _ => false | _ => true


def xbuild (P : Program) (t : TypeId) (parts : List (Nat × Value)) : Option Value :=
  match flds P t with
  | some fs => (match zer P t with
    | some z => if (fs.all fun f => decide (0 < szt P f.1)) = true ∧ z.cells.toList.all plain1 = true ∧ (parts.all fun p => notTuple p.2) = true then
        (match xfill (fun i => (fs[i]?).map fun f => (f.2, szt P f.1)) z.cells.toList parts with | some cs => some (.agg cs.toArray) | none => none) else none
    | none => none)
  | none => (match und P t, zer P t with
    | .array _ e, some z => if 0 < szt P e ∧ z.cells.toList.all plain1 = true ∧ (parts.all fun p => notTuple p.2) = true then
        (match xfill (fun i => some (i * szt P e, szt P e)) z.cells.toList parts with | some cs => some (.agg cs.toArray) | none => none) else none
    | _, _ => none)

section
variable {P : Program} {m : List Ent}
/-- Lists of cells, told and as they lie. -/
def Vs (m : List Ent) (l l' : List Value) : Prop := l'.length = l.length ∧ ∀ (j : Nat) (x : Value), l[j]? = some x → ∃ y, l'[j]? = some y ∧ V1 m x y
theorem Vs.setR {l l' xs ys : List Value} (h : Vs m l l') (hx : Vs m xs ys) {off : Nat} (hl : off + xs.length ≤ l.length) : Vs m (setR l off xs) (setR l' off ys) := by
  refine ⟨by rw [setR_length, setR_length, h.1], fun j x hj => ?_⟩
  rw [setR_get _ _ _ _ hl] at hj
  rw [setR_get _ _ _ _ (by rw [hx.1, h.1]; exact hl), hx.1]
  split
  · rename_i hc
    rw [if_pos hc] at hj
    exact hx.2 _ _ hj
  · rename_i hc
    rw [if_neg hc] at hj
    exact h.2 _ _ hj
theorem V2.cells {x y : Value} (h : V2 m x y) (hn : notTuple x = true) : Vs m x.cells.toList y.cells.toList ∧ y.cells.size = x.cells.size := by
  cases h with
  | one h =>
    have hc : ∀ {x y : Value}, V1 m x y → notTuple x = true → x.cells = #[x] ∧ y.cells = #[y] := by
      intro x y h hn
      cases h with
      | plain h => cases x <;> first | exact ⟨rfl, rfl⟩ | cases h
      | ptr _ => exact ⟨rfl, rfl⟩
      | sl _ _ _ => exact ⟨rfl, rfl⟩
      | slv _ _ => exact ⟨rfl, rfl⟩
      | sl0 => exact ⟨rfl, rfl⟩
      | clo _ _ _ _ => exact ⟨rfl, rfl⟩
    obtain ⟨h1, h2⟩ := hc h hn
    rw [h1, h2]
    refine ⟨⟨rfl, fun j x hj => ?_⟩, rfl⟩
    cases j with
    | zero => cases hj; exact ⟨_, rfl, h⟩
    | succ j => cases hj
  | agg hs h => exact ⟨⟨by simpa [Value.cells] using hs, fun j x hj => by
      obtain ⟨y, h1, h2⟩ := h j x (by simpa [Value.cells] using hj)
      exact ⟨y, by simpa [Value.cells] using h1, h2⟩⟩, hs⟩
theorem V.v2 {x y : Value} (h : V m x y) (hn : notTuple x = true) : V2 m x y := by
  cases h with
  | two h => exact h
  | tup _ _ => cases hn
theorem foldl_setR (xs : List Value) : ∀ (cs : Array Value) (off k : Nat), (xs.zipIdx k).foldl (fun cs (p : Value × Nat) => cs.setIfInBounds (off + p.2) p.1) cs = (setR cs.toList (off + k) xs).toArray := by
  induction xs with
  | nil => intro cs off k; simp [setR]
  | cons x xs ih =>
    intro cs off k
    rw [List.zipIdx_cons, List.foldl_cons, ih]
    simp only [setR, Array.toList_setIfInBounds]
    rfl
theorem fill_run {place : Nat → Option (Nat × Nat)} : ∀ (parts parts' : List (Nat × Value)) (l : List Value) (c : Array Value) (l' : List Value),
    parts'.length = parts.length → (∀ (j : Nat) (p : Nat × Value), parts[j]? = some p → ∃ p' : Nat × Value, parts'[j]? = some p' ∧ p'.1 = p.1 ∧ V2 m p.2 p'.2) → (parts.all fun p => notTuple p.2) = true →
    Vs m l c.toList → xfill place l parts = some l' → ∃ c', Instr.fill place c parts' = some c' ∧ Vs m l' c'.toList := by
  intro parts
  induction parts with
  | nil =>
    intro parts' l c l' hlen _ _ hv h
    have : parts' = [] := List.eq_nil_of_length_eq_zero hlen
    subst this
    cases h
    exact ⟨c, rfl, hv⟩
  | cons p rest ih =>
    intro parts' l c l' hlen hp hn hv h
    obtain ⟨i, v⟩ := p
    cases parts' with
    | nil => cases hlen
    | cons p' rest' =>
      obtain ⟨p0, h1, h2, h3⟩ := hp 0 (i, v) rfl
      cases h1
      obtain ⟨i', v'⟩ := p'
      simp only at h2 h3
      subst h2
      simp only [List.all_cons, Bool.and_eq_true] at hn
      obtain ⟨hc, hsz⟩ := h3.cells hn.1
      unfold xfill at h
      unfold Instr.fill
      cases hpl : place i' with
      | none => rw [hpl] at h; cases h
      | some os =>
        obtain ⟨off, size⟩ := os
        rw [hpl] at h
        simp only at h ⊢
        split at h
        case isFalse => cases h
        rename_i hcond
        have hcl : c.size = l.length := by have := hv.1; simpa using this
        rw [if_neg (by rw [hsz, hcl]; simp; omega)]
        have hfold : v'.cells.zipIdx.foldl (fun cs (x : Value × Nat) => cs.setIfInBounds (off + x.2) x.1) c = (setR c.toList off v'.cells.toList).toArray := by
          have := foldl_setR v'.cells.toList c off 0
          rw [Nat.add_zero] at this
          rw [← this, ← Array.foldl_toList]
          simp
        have hgo := ih rest' (setR l off v.cells.toList) (setR c.toList off v'.cells.toList).toArray l' (by simpa using hlen) (fun j p hj => hp (j + 1) p (by simpa using hj)) hn.2
          (by simpa using hv.setR hc (by simpa using hcond.2)) h
        obtain ⟨c', h4, h5⟩ := hgo
        exact ⟨c', by rw [← h4]; exact congrArg (fun z => Instr.fill place z rest') hfold, h5⟩
theorem plain_Vs {l : List Value} (h : l.all plain1 = true) : Vs m l l := ⟨rfl, fun j x hj => ⟨x, hj, .plain (List.all_eq_true.1 h x (List.mem_of_getElem? hj))⟩⟩
theorem mapM_places : ∀ (fs : List Field), (fs.all fun f => decide (0 < szt P f.type)) = true → fs.mapM (fun f => (P.info? f.type).map fun i => (f.offset, i.size)) = some (fs.map fun f => (f.offset, szt P f.type))
  | [], _ => rfl
  | f :: fs, h => by
    simp only [List.all_cons, Bool.and_eq_true, decide_eq_true_eq] at h
    obtain ⟨i, h1, h2⟩ := szt_info h.1
    rw [List.mapM_cons, h1, mapM_places fs h.2]
    simp [h2]
theorem xbuild_run {t : TypeId} {parts parts' : List (Nat × Value)} {v : Value} (hlen : parts'.length = parts.length) (hp : ∀ (j : Nat) (p : Nat × Value), parts[j]? = some p → ∃ p' : Nat × Value, parts'[j]? = some p' ∧ p'.1 = p.1 ∧ V m p.2 p'.2)
    (h : xbuild P t parts = some v) : ∃ v', V m v v' ∧ ∀ w' : World, (Instr.build t parts'.toArray).run P w' = .ok v' w' := by
  unfold xbuild at h
  split at h
  · rename_i l hfl
    obtain ⟨fs, hu, rfl⟩ := flds_some hfl
    split at h
    case h_2 => cases h
    rename_i z hz
    split at h
    case isFalse => cases h
    rename_i hc
    split at h
    case h_2 => cases h
    rename_i cs hf
    cases h
    obtain ⟨c', h1, h2⟩ := fill_run parts parts' z.cells.toList z.cells cs hlen (fun j p hj => by
      obtain ⟨p', a, b, c⟩ := hp j p hj
      exact ⟨p', a, b, c.v2 (List.all_eq_true.1 hc.2.2 p (List.mem_of_getElem? hj))⟩) hc.2.2 (plain_Vs hc.2.1) hf
    refine ⟨.agg c', list_agg (l' := c'.toList) h2.1 h2.2, fun w' => run_build w' t _ _ ?_⟩
    unfold zer at hz
    cases hi : P.info? t with
    | none => rw [hi] at hz; cases hz
    | some it =>
      rw [hi] at hz
      have hz' : it.zero = some z := hz
      have hc1 : (fs.toList.all fun f => decide (0 < szt P f.type)) = true := by
        have := hc.1
        rw [List.all_map] at this
        exact this
      simp only [Program.built, hi, und_some hu (by simp), hz', mapM_places fs.toList hc1]
      rw [← h1]
      congr 1
      funext i
      simp [Function.comp_def]
  · split at h
    case h_2 => cases h
    rename_i nn e z hu hz
    split at h
    case isFalse => cases h
    rename_i hc
    split at h
    case h_2 => cases h
    rename_i cs hf
    cases h
    obtain ⟨c', h1, h2⟩ := fill_run parts parts' z.cells.toList z.cells cs hlen (fun j p hj => by
      obtain ⟨p', a, b, c⟩ := hp j p hj
      exact ⟨p', a, b, c.v2 (List.all_eq_true.1 hc.2.2 p (List.mem_of_getElem? hj))⟩) hc.2.2 (plain_Vs hc.2.1) hf
    refine ⟨.agg c', list_agg (l' := c'.toList) h2.1 h2.2, fun w' => run_build w' t _ _ ?_⟩
    obtain ⟨ie, hie, hsz⟩ := szt_info hc.1
    unfold zer at hz
    cases hi : P.info? t with
    | none => rw [hi] at hz; cases hz
    | some it =>
      rw [hi] at hz
      have hz' : it.zero = some z := hz
      simp only [Program.built, hi, und_some hu (by simp), hz', hie, hsz]
      exact h1
end
end Go.Proofs.YtjfhdckcjkgjnaaDoor
