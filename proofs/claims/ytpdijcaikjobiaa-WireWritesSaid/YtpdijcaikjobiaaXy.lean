/-
  Two arrays of integers, asked whether they are the same. Over any program.
-/
import Derived.Test.YtpdijcaikjobiaaXf
namespace Go.Proofs.Ytpdijcaikjobiaa
open Go Go.RowKit
set_option linter.unusedVariables false

/-- Integers of one kind as values. -/
def ints (k : IntKind) (l : List Int) : Array Value := (l.map (Value.int k)).toArray

theorem ints_size (k : IntKind) (l : List Int) : (ints k l).size = l.length := by simp [ints]
theorem ints_at (k : IntKind) (l : List Int) (i : Nat) (h : i < l.length) : (ints k l)[i]? = some (.int k (l.getD i 0)) := by
  simp [ints, List.getElem?_eq_getElem h]
theorem ints_set (k : IntKind) (l : List Int) (i : Nat) (x : Int) : (ints k l).setIfInBounds i (.int k x) = ints k (l.set i x) := by
  simp [ints, List.map_set]
theorem ints_one (k : IntKind) (l : List Int) : (ints k l).all (·.oneCell') = true := by
  simp [ints, Value.oneCell']

section
variable {P : Program}
theorem run_part_ints (w : World) (e : TypeId) (k kk : IntKind) (l : List Int) (i : Nat) (hu : P.underlying e = some (.int kk)) (hi : i < l.length) :
    (part e (ints k l) i).run P w = .ok (.int k (l.getD i 0)) w := by
  simp [part, isAgg, run_underlying hu, ints_at k l i hi]

theorem run_equalIn_ints_from (d : Nat) (e : TypeId) (k kk : IntKind) (l m : List Int) (he : P.underlying e = some (.int kk)) (hl : l.length = m.length) (w : World) :
    ∀ j i, i + j = l.length →
    (forIn (m := Sem) (List.range' i j 1) ((none, ()) : Option Bool × Unit) fun i _ => do
        let a ← part e (ints k l) (i * 1)
        let b ← part e (ints k m) (i * 1)
        let r ← Op.equalIn (d + 1) e a b
        if (!r) = true then pure (ForInStep.done (some false, ())) else pure (ForInStep.yield (none, ()))).run P w =
      .ok (if l.drop i = m.drop i then (none, ()) else (some false, ())) w := by
  intro j
  induction j with
  | zero => intro i hij; simp [List.drop_eq_nil_of_le (show l.length ≤ i by omega), List.drop_eq_nil_of_le (show m.length ≤ i by omega)]
  | succ j ih =>
    intro i hij
    have hp := run_part_ints (P := P) w e k kk l i he (by omega)
    have hq := run_part_ints (P := P) w e k kk m i he (by omega)
    have hr := run_equalIn_int (P := P) w d e k kk (l.getD i 0) (m.getD i 0) he
    have hl1 : l.drop i = l.getD i 0 :: l.drop (i + 1) := by rw [List.drop_eq_getElem_cons (show i < l.length by omega)]; simp [List.getElem?_eq_getElem (show i < l.length by omega)]
    have hm1 : m.drop i = m.getD i 0 :: m.drop (i + 1) := by rw [List.drop_eq_getElem_cons (show i < m.length by omega)]; simp [List.getElem?_eq_getElem (show i < m.length by omega)]
    rw [List.range'_succ, List.forIn_cons]
    simp only [Sem.run_bind, Nat.mul_one, hp, hq, hr, Result.andThen_ok]
    by_cases hx : l.getD i 0 = m.getD i 0
    · simp only [hx, beq_self_eq_true, Bool.not_true, Bool.false_eq_true, if_false, Sem.run_pure, Result.andThen_ok]
      have := ih (i + 1) (by omega)
      simp only [Nat.mul_one] at this
      rw [this, hl1, hm1, hx]
      simp
    · have hb : (l.getD i 0 == m.getD i 0) = false := by simpa using hx
      simp only [hb, Bool.not_false, if_true, Sem.run_pure, Result.andThen_ok]
      rw [hl1, hm1, if_neg (by intro h; injection h with h; exact hx h)]

/-- Two arrays of integers, asked for equality. -/
theorem run_equalIn_ints (d : Nat) (t e : TypeId) (n : Nat) (k kk : IntKind) (info : TypeInfo) (l m : List Int) (ht : P.underlying t = some (.array n e)) (he : P.underlying e = some (.int kk))
    (hs : P.info? e = some info) (h1 : info.size = 1) (hl : l.length = n) (hm : m.length = n) (w : World) :
    (Op.equalIn (d + 2) t (.agg (ints k l)) (.agg (ints k m))).run P w = .ok (l == m) w := by
  have h := run_equalIn_ints_from (P := P) d e k kk l m he (by omega) w n 0 (by omega)
  rw [show d + 2 = (d + 1) + 1 from rfl]
  unfold Op.equalIn
  simp only [Sem.run_bind, run_underlying ht, Result.andThen_ok, sizeOf, typeInfo, run_program, hs, Sem.run_pure, h1]
  rw [Std.Legacy.Range.forIn_eq_forIn_range']
  simp only [Std.Legacy.Range.size, Nat.sub_zero, Nat.add_sub_cancel, Nat.div_one]
  rw [h]
  by_cases hx : l = m
  · subst hx; simp
  · simp [hx]

end
def allK (k : IntKind) (l : List Value) : Bool := l.all fun v => match v with | .int k' _ => decide (k' = k) | _ => false
theorem allK_iv (k : IntKind) (l : List Int) : allK k (iv k l) = true := by
  unfold allK iv
  rw [List.all_map, List.all_eq_true]
  intro x _
  simp
theorem num_iv (k : IntKind) (l : List Int) : (iv k l).map num = l := by
  unfold iv
  rw [List.map_map]
  exact List.map_id'' (fun _ => rfl) l
theorem allK_spec {k : IntKind} {l : List Value} (h : allK k l = true) : l = iv k (l.map num) := by
  unfold allK at h
  unfold iv
  induction l with
  | nil => rfl
  | cons x l ih =>
    simp only [List.all_cons, Bool.and_eq_true] at h
    rw [List.map_cons, List.map_cons, ← ih h.2]
    congr 1
    have h1 := h.1
    split at h1
    · simp at h1; subst h1; rfl
    · cases h1
/-- No part of such a value asks for a look ahead of a comparison. -/
def gl (P : Program) (t : TypeId) : Bool := !(P.eqGuardType P.depth t)
def xarr (P : Program) (t : TypeId) (xs ys : List Value) : Option Bool :=
  match und P t with
  | .array n e => (match und P e with
    | .int k => if gl P t = true ∧ allK k xs = true ∧ allK k ys = true ∧ xs.length = n ∧ ys.length = n ∧ szt P e = 1 then some (xs.map num == ys.map num) else none
    | _ => none)
  | _ => none
def xeqA (P : Program) (op : BinOp) (t : TypeId) (x y : Value) : Option Value :=
  match op, x, y with
  | .eql, .agg xs, .agg ys => (xarr P t xs.toList ys.toList).map .bool
  | .neq, .agg xs, .agg ys => (xarr P t xs.toList ys.toList).map fun b => .bool (!b)
  | _, _, _ => none
section
variable {P : Program}
theorem guard_gl {op : BinOp} {t : TypeId} (h : gl P t = true) (ox oy : Operand) (xs ys : Array Value) (w : World) : (eqGuard op t ox oy (.agg xs) (.agg ys)).run P w = .ok () w := by
  have h' : P.eqGuardType P.depth t = false := by simpa [gl] using h
  cases op <;> simp [eqGuard, h']
theorem xarr_run {t : TypeId} {xs ys : Array Value} {b : Bool} (h : xarr P t xs.toList ys.toList = some b) (w : World) : (Op.equal t (.agg xs) (.agg ys)).run P w = .ok b w ∧ gl P t = true ∧ xs.all plain1 = true ∧ ys.all plain1 = true := by
  unfold xarr at h
  split at h
  case h_2 => cases h
  rename_i n e hu
  split at h
  case h_2 => cases h
  rename_i k he
  split at h
  case isFalse => cases h
  rename_i hc
  cases h
  obtain ⟨h1, h2, h3, h4, h5, h6⟩ := hc
  have ex := allK_spec h2
  have ey := allK_spec h3
  obtain ⟨info, hi, hs⟩ := szt_info (P := P) (t := e) (by omega)
  have e1 : xs = ints k (xs.toList.map num) := by
    apply Array.toList_inj.1
    exact ex
  have e2 : ys = ints k (ys.toList.map num) := by
    apply Array.toList_inj.1
    exact ey
  have pl : ∀ (zs : Array Value), zs.toList = iv k (zs.toList.map num) → zs.all plain1 = true := by
    intro zs hz
    rw [Array.all_eq_true]
    intro i hi
    have : zs.toList[i]? = some zs[i] := by simp [hi]
    rw [hz] at this
    simp only [iv, List.getElem?_map] at this
    cases hq : (zs.toList.map num)[i]? with
    | none => simp only [List.getElem?_map] at hq; rw [hq] at this; cases this
    | some q => simp only [List.getElem?_map] at hq; rw [hq] at this; simp at this; rw [← this]; rfl
  refine ⟨?_, h1, pl xs ex, pl ys ey⟩
  rw [e1, e2]
  have := run_equalIn_ints (P := P) 9998 t e n k k info (xs.toList.map num) (ys.toList.map num) (und_some hu (by simp)) (und_some he (by simp)) hi (by rw [hs]; exact h6) (by simpa using h4) (by simpa using h5) w
  rw [← e1, ← e2] at this ⊢
  exact this
theorem xeqA_run {op : BinOp} {t : TypeId} {x y v : Value} (h : xeqA P op t x y = some v) (ox oy : Operand) (w : World) :
    (do eqGuard op t ox oy x y; binOp op t x y : Sem Value).run P w = .ok v w ∧ plainV x = true ∧ plainV y = true ∧ plainV v = true := by
  unfold xeqA at h
  split at h
  · rename_i xs ys
    cases hx : xarr P t xs.toList ys.toList with
    | none => rw [hx] at h; cases h
    | some b =>
      rw [hx] at h
      cases h
      obtain ⟨h1, h2, h3, h4⟩ := xarr_run hx w
      refine ⟨?_, h3, h4, rfl⟩
      rw [Sem.run_bind, guard_gl h2]
      show ((do pure (.bool (← Op.equal t (.agg xs) (.agg ys))) : Sem Value).run P w) = _
      rw [Sem.run_bind, h1]
      rfl
  · rename_i xs ys
    cases hx : xarr P t xs.toList ys.toList with
    | none => rw [hx] at h; cases h
    | some b =>
      rw [hx] at h
      cases h
      obtain ⟨h1, h2, h3, h4⟩ := xarr_run hx w
      refine ⟨?_, h3, h4, rfl⟩
      rw [Sem.run_bind, guard_gl h2]
      show ((do pure (.bool (!(← Op.equal t (.agg xs) (.agg ys)))) : Sem Value).run P w) = _
      rw [Sem.run_bind, h1]
      rfl
  · cases h
end
end Go.Proofs.Ytpdijcaikjobiaa
