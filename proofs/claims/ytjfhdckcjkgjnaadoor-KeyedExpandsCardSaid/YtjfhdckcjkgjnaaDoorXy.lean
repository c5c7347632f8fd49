/-
  Two arrays of integers, asked whether they are the same. Over any program.
-/
import Derived.Test.YtjfhdckcjkgjnaaDoorXf
namespace Go.Proofs.YtjfhdckcjkgjnaaDoor
open Go Go.RowKit
set_option linter.unusedVariables false

/-- Integers of one kind as values. -/
def ints (k : IntKind) (l : List Int) : Array Value := (l.map (Value.int k)).toArray

theorem ints_size (k : IntKind) (l : List Int) : (ints k l).size = l.length := by simp [ints]
theorem ints_at (k : IntKind) (l : List Int) (i : Nat) (h : i < l.length) : (ints k l)[i]? = some (.int k (l.getD i 0)) := by
  simp [ints, List.getElem?_eq_getElem h]
theorem ints_set (k : IntKind) (l : List Int) (i : Nat) (x : Int) : (ints k l).setIfInBounds i (.int k x) = ints k (l.set i x) := by
  simp [ints, List.map_set]
theorem ints_one (k : IntKind) (l : List Int) : (ints k l).all (·.oneCell') = true := by
  simp [ints, Value.oneCell']

section
variable {P : Program}
theorem run_part_ints (w : World) (e : TypeId) (k kk : IntKind) (l : List Int) (i : Nat) (hu : P.underlying e = some (.int kk)) (hi : i < l.length) :
    (part e (ints k l) i).run P w = .ok (.int k (l.getD i 0)) w := by
  simp [part, isAgg, run_underlying hu, ints_at k l i hi]

theorem run_equalIn_ints_from (d : Nat) (e : TypeId) (k kk : IntKind) (l m : List Int) (he : P.underlying e = some (.int kk)) (hl : l.length = m.length) (w : World) :
    ∀ j i, i + j = l.length →
    (forIn (m := Sem) (List.range' i j 1) ((none, ()) : Option Bool × Unit) fun i _ => do
        let a ← part e (ints k l) (i * 1)
        let b ← part e (ints k m) (i * 1)
        let r ← Op.equalIn (d + 1) e a b
        if (!r) = true then pure (ForInStep.done (some false, ())) else pure (ForInStep.yield (none, ()))).run P w =
      .ok (if l.drop i = m.drop i then (none, ()) else (some false, ())) w := by
  intro j
  induction j with
  | zero => intro i hij; simp [List.drop_eq_nil_of_le (show l.length ≤ i by omega), List.drop_eq_nil_of_le (show m.length ≤ i by omega)]
  | succ j ih =>
    intro i hij
    have hp := run_part_ints (P := P) w e k kk l i he (by omega)
    have hq := run_part_ints (P := P) w e k kk m i he (by omega)
    have hr := run_equalIn_int (P := P) w d e k kk (l.getD i 0) (m.getD i 0) he
    have hl1 : l.drop i = l.getD i 0 :: l.drop (i + 1) := by rw [List.drop_eq_getElem_cons (show i < l.length by omega)]; simp [List.getElem?_eq_getElem (show i < l.length by omega)]
    have hm1 : m.drop i = m.getD i 0 :: m.drop (i + 1) := by rw [List.drop_eq_getElem_cons (show i < m.length by omega)]; simp [List.getElem?_eq_getElem (show i < m.length by omega)]
    rw [List.range'_succ, List.forIn_cons]
    simp only [Sem.run_bind, Nat.mul_one, hp, hq, hr, Result.andThen_ok]
    by_cases hx : l.getD i 0 = m.getD i 0
    · simp only [hx, beq_self_eq_true, Bool.not_true, Bool.false_eq_true, if_false, Sem.run_pure, Result.andThen_ok]
      have := ih (i + 1) (by omega)
      simp only [Nat.mul_one] at this
      rw [this, hl1, hm1, hx]
      simp
    · have hb : (l.getD i 0 == m.getD i 0) = false := by simpa using hx
      simp only [hb, Bool.not_false, if_true, Sem.run_pure, Result.andThen_ok]
      rw [hl1, hm1, if_neg (by intro h; injection h with h; exact hx h)]

/-- Two arrays of integers, asked for equality. -/
theorem run_equalIn_ints (d : Nat) (t e : TypeId) (n : Nat) (k kk : IntKind) (info : TypeInfo) (l m : List Int) (ht : P.underlying t = some (.array n e)) (he : P.underlying e = some (.int kk))
    (hs : P.info? e = some info) (h1 : info.size = 1) (hl : l.length = n) (hm : m.length = n) (w : World) :
    (Op.equalIn (d + 2) t (.agg (ints k l)) (.agg (ints k m))).run P w = .ok (l == m) w := by
  have h := run_equalIn_ints_from (P := P) d e k kk l m he (by omega) w n 0 (by omega)
  rw [show d + 2 = (d + 1) + 1 from rfl]
  unfold Op.equalIn
  simp only [Sem.run_bind, run_underlying ht, Result.andThen_ok, sizeOf, typeInfo, run_program, hs, Sem.run_pure, h1]
  rw [Std.Legacy.Range.forIn_eq_forIn_range']
  simp only [Std.Legacy.Range.size, Nat.sub_zero, Nat.add_sub_cancel, Nat.div_one]
  rw [h]
  by_cases hx : l = m
  · subst hx; simp
  · simp [hx]

end
def allK (k : IntKind) (l : List Value) : Bool := l.all fun v => match v with | .int k' _ => decide (k' = k) | _ => false
theorem allK_iv (k : IntKind) (l : List Int) : allK k (iv k l) = true := by
  unfold allK iv
  rw [List.all_map, List.all_eq_true]
  intro x _
  simp
theorem num_iv (k : IntKind) (l : List Int) : (iv k l).map num = l := by
  unfold iv
  rw [List.map_map]
  exact List.map_id'' (fun _ => rfl) l
theorem allK_spec {k : IntKind} {l : List Value} (h : allK k l = true) : l = iv k (l.map num) := by
  unfold allK at h
  unfold iv
  induction l with
  | nil => rfl
  | cons x l ih =>
    simp only [List.all_cons, Bool.and_eq_true] at h
    rw [List.map_cons, List.map_cons, ← ih h.2]
    congr 1
    have h1 := h.1
    split at h1
    · simp at h1; subst h1; rfl
    · cases h1
/-- No part of such a value asks for a look ahead of a comparison. -/
def gl (P : Program) (t : TypeId) : Bool := !(P.eqGuardType P.depth t)
def xarr (P : Program) (t : TypeId) (xs ys : List Value) : Option Bool :=
  match und P t with
  | .array n e => (match und P e with
    | .int k => if gl P t = true ∧ allK k xs = true ∧ allK k ys = true ∧ xs.length = n ∧ ys.length = n ∧ szt P e = 1 then some (xs.map num == ys.map num) else none
    | _ => none)
  | _ => none
/-- Fields of one cell each, compared as they stand. -/
inductive CmpK where
  | int | str | bool
def cmpKs (P : Program) : Nat → List Field → Option (List CmpK)
  | _, [] => some []
  | o, f :: fs => if f.name = "_" ∨ f.offset ≠ o then none else
    match und P f.type with
    | .int _ => (cmpKs P (o + 1) fs).map (.int :: ·)
    | .string => (cmpKs P (o + 1) fs).map (.str :: ·)
    | .bool => (cmpKs P (o + 1) fs).map (.bool :: ·)
    | _ => none
def cmpT (P : Program) (t : TypeId) : Option (List CmpK) :=
  match und P t with
  | .struct fs => if gl P t = true ∧ P.stoodInHeld t = false then cmpKs P 0 fs.toList else none
  | _ => none
def xcmp : List CmpK → List Value → List Value → Option Bool
  | [], [], [] => some true
  | .int :: ks, .int k a :: xs, .int k' b :: ys => if k = k' then (xcmp ks xs ys).map (a == b && ·) else none
  | .str :: ks, .string a :: xs, .string b :: ys => (xcmp ks xs ys).map (a.toList == b.toList && ·)
  | .bool :: ks, .bool a :: xs, .bool b :: ys => (xcmp ks xs ys).map (a == b && ·)
  | _, _, _ => none
def xagg (P : Program) (t : TypeId) (xs ys : List Value) : Option Bool :=
  match cmpT P t with
  | some ks => xcmp ks xs ys
  | none => xarr P t xs ys
def xeqA (P : Program) (op : BinOp) (t : TypeId) (x y : Value) : Option Value :=
  match op, x, y with
  | .eql, .agg xs, .agg ys => (xagg P t xs.toList ys.toList).map .bool
  | .neq, .agg xs, .agg ys => (xagg P t xs.toList ys.toList).map fun b => .bool (!b)
  | _, _, _ => none
section
variable {P : Program}
theorem guard_gl {op : BinOp} {t : TypeId} (h : gl P t = true) (ox oy : Operand) (xs ys : Array Value) (w : World) : (eqGuard op t ox oy (.agg xs) (.agg ys)).run P w = .ok () w := by
  have h' : P.eqGuardType P.depth t = false := by simpa [gl] using h
  cases op <;> simp [eqGuard, h']
theorem xarr_run {t : TypeId} {xs ys : Array Value} {b : Bool} (h : xarr P t xs.toList ys.toList = some b) (w : World) : (Op.equal t (.agg xs) (.agg ys)).run P w = .ok b w ∧ gl P t = true ∧ xs.all plain1 = true ∧ ys.all plain1 = true := by
  unfold xarr at h
  split at h
  case h_2 => cases h
  rename_i n e hu
  split at h
  case h_2 => cases h
  rename_i k he
  split at h
  case isFalse => cases h
  rename_i hc
  cases h
  obtain ⟨h1, h2, h3, h4, h5, h6⟩ := hc
  have ex := allK_spec h2
  have ey := allK_spec h3
  obtain ⟨info, hi, hs⟩ := szt_info (P := P) (t := e) (by omega)
  have e1 : xs = ints k (xs.toList.map num) := by
    apply Array.toList_inj.1
    exact ex
  have e2 : ys = ints k (ys.toList.map num) := by
    apply Array.toList_inj.1
    exact ey
  have pl : ∀ (zs : Array Value), zs.toList = iv k (zs.toList.map num) → zs.all plain1 = true := by
    intro zs hz
    rw [Array.all_eq_true]
    intro i hi
    have : zs.toList[i]? = some zs[i] := by simp [hi]
    rw [hz] at this
    simp only [iv, List.getElem?_map] at this
    cases hq : (zs.toList.map num)[i]? with
    | none => simp only [List.getElem?_map] at hq; rw [hq] at this; cases this
    | some q => simp only [List.getElem?_map] at hq; rw [hq] at this; simp at this; rw [← this]; rfl
  refine ⟨?_, h1, pl xs ex, pl ys ey⟩
  rw [e1, e2]
  have := run_equalIn_ints (P := P) 9998 t e n k k info (xs.toList.map num) (ys.toList.map num) (und_some hu (by simp)) (und_some he (by simp)) hi (by rw [hs]; exact h6) (by simpa using h4) (by simpa using h5) w
  rw [← e1, ← e2] at this ⊢
  exact this
theorem part_one {xs : Array Value} {o : Nat} {t : TypeId} {v : Value} (ht : isAggD (und P t) = false) (hu : P.underlying t = some (und P t)) (h : xs.toList[o]? = some v) (w : World) : (part t xs o).run P w = .ok v w := by
  have h' : xs[o]? = some v := by simpa using h
  have h2 : ∀ d, P.underlying t = some d → isAggD d = false → (isAgg t).run P w = .ok false w := fun d hd hg => by
    cases d <;> first | (simp [isAggD] at hg; done) | simp [isAgg, run_underlying hd]
  simp [part, h2 _ hu ht, h']
theorem xcmp_step {d : Nat} {w : World} {xs ys : Array Value} {f : Field} {fs : List Field} {u v : Value} {r b' : Bool} (hn1 : f.name ≠ "_") (p1 : (part f.type xs f.offset).run P w = .ok u w) (p2 : (part f.type ys f.offset).run P w = .ok v w) (hq : (Op.equalIn d f.type u v).run P w = .ok r w)
    (q1 : (Op.eqFields d xs ys fs).run P w = .ok b' w) : (Op.eqFields d xs ys (f :: fs)).run P w = .ok (r && b') w := by
  rw [Op.eqFields, if_pos hn1]
  simp only [Sem.run_bind, p1, p2, hq, Result.andThen_ok]
  cases r with
  | true => simpa using q1
  | false => simp
theorem xcmp_cons {k : CmpK} {ks : List CmpK} {X Y : List Value} {b : Bool} (h : xcmp (k :: ks) X Y = some b) :
    ∃ u v X' Y' r b', X = u :: X' ∧ Y = v :: Y' ∧ xcmp ks X' Y' = some b' ∧ b = (r && b') ∧ plain1 u = true ∧ plain1 v = true ∧
      ((k = .int ∧ ∃ ka a c, u = .int ka a ∧ v = .int ka c ∧ r = (a == c)) ∨ (k = .str ∧ ∃ a c, u = .string a ∧ v = .string c ∧ r = (a.toList == c.toList)) ∨ (k = .bool ∧ ∃ a c, u = .bool a ∧ v = .bool c ∧ r = (a == c))) := by
  unfold xcmp at h
  split at h
  · rename_i e; cases e
  · rename_i ks' ka a X' kb c Y' e
    cases e
    split at h
    case isFalse => cases h
    rename_i hk
    subst hk
    cases hc : xcmp ks X' Y' with
    | none => rw [hc] at h; cases h
    | some b' =>
      rw [hc] at h; cases h
      exact ⟨_, _, _, _, _, b', rfl, rfl, hc, rfl, rfl, rfl, .inl ⟨rfl, _, _, _, rfl, rfl, rfl⟩⟩
  · rename_i ks' a X' c Y' e
    cases e
    cases hc : xcmp ks X' Y' with
    | none => rw [hc] at h; cases h
    | some b' =>
      rw [hc] at h; cases h
      exact ⟨_, _, _, _, _, b', rfl, rfl, hc, rfl, rfl, rfl, .inr (.inl ⟨rfl, _, _, rfl, rfl, rfl⟩)⟩
  · rename_i ks' a X' c Y' e
    cases e
    cases hc : xcmp ks X' Y' with
    | none => rw [hc] at h; cases h
    | some b' =>
      rw [hc] at h; cases h
      exact ⟨_, _, _, _, _, b', rfl, rfl, hc, rfl, rfl, rfl, .inr (.inr ⟨rfl, _, _, rfl, rfl, rfl⟩)⟩
  · cases h
theorem xcmp_run {d : Nat} (w : World) {xs ys : Array Value} : ∀ (fs : List Field) (ks : List CmpK) (o : Nat) (b : Bool), cmpKs P o fs = some ks → xcmp ks (xs.toList.drop o) (ys.toList.drop o) = some b →
    (Op.eqFields (d + 1) xs ys fs).run P w = .ok b w ∧ (xs.toList.drop o).all plain1 = true ∧ (ys.toList.drop o).all plain1 = true
  | [], ks, o, b, hk, hx => by
    cases hk
    generalize xs.toList.drop o = X at hx
    generalize ys.toList.drop o = Y at hx
    unfold xcmp at hx
    split at hx <;> first | (cases hx; done) | skip
    · cases hx
      exact ⟨by simp [Op.eqFields], rfl, rfl⟩
    all_goals (rename_i h; cases h)
  | f :: fs, ks, o, b, hk, hx => by
    unfold cmpKs at hk
    split at hk
    · cases hk
    rename_i hn
    have hn1 : f.name ≠ "_" := fun e => hn (.inl e)
    have hn2 : f.offset = o := by rcases Classical.em (f.offset = o) with h | h; exact h; exact absurd (.inr h) hn
    have get : ∀ (zs : Array Value) (v : Value) (r : List Value), zs.toList.drop o = v :: r → zs.toList[o]? = some v ∧ zs.toList.drop (o + 1) = r := fun zs v r h => by
      constructor
      · have := congrArg (·[0]?) h
        simpa using this
      · rw [← List.drop_drop, h]; rfl
    have main : ∀ (k : CmpK) (ks' : List CmpK), ks = k :: ks' → cmpKs P (o + 1) fs = some ks' → P.underlying f.type = some (und P f.type) → isAggD (und P f.type) = false →
        (∀ ka a c, k = .int → ∀ w, (Op.equalIn (d + 1) f.type (.int ka a) (.int ka c)).run P w = .ok (a == c) w) → (∀ a c, k = .str → ∀ w, (Op.equalIn (d + 1) f.type (.string a) (.string c)).run P w = .ok (a.toList == c.toList) w) → (∀ a c, k = .bool → ∀ w, (Op.equalIn (d + 1) f.type (.bool a) (.bool c)).run P w = .ok (a == c) w) →
        (Op.eqFields (d + 1) xs ys (f :: fs)).run P w = .ok b w ∧ (xs.toList.drop o).all plain1 = true ∧ (ys.toList.drop o).all plain1 = true := by
      intro k ks' hks hr hP hA h1 h2 h3
      rw [hks] at hx
      obtain ⟨u, v, X', Y', r, b', hX, hY, hc, rfl, pu, pv, hcase⟩ := xcmp_cons hx
      obtain ⟨g1, g2⟩ := get xs _ _ hX
      obtain ⟨g3, g4⟩ := get ys _ _ hY
      obtain ⟨q1, q2, q3⟩ := xcmp_run (d := d) (xs := xs) (ys := ys) w fs ks' (o + 1) b' hr (by rw [g2, g4]; exact hc)
      rw [g2] at q2; rw [g4] at q3
      have p1 := part_one (P := P) (t := f.type) hA hP g1 w
      have p2 := part_one (P := P) (t := f.type) hA hP g3 w
      rw [← hn2] at p1 p2
      refine ⟨xcmp_step hn1 p1 p2 ?_ q1, by rw [hX, List.all_cons, pu, q2]; rfl, by rw [hY, List.all_cons, pv, q3]; rfl⟩
      rcases hcase with ⟨rfl, ka, a, c, rfl, rfl, rfl⟩ | ⟨rfl, a, c, rfl, rfl, rfl⟩ | ⟨rfl, a, c, rfl, rfl, rfl⟩
      · exact h1 _ _ _ rfl w
      · exact h2 _ _ rfl w
      · exact h3 _ _ rfl w
    split at hk
    · rename_i k hu
      have hP := und_some hu (by simp)
      cases hr : cmpKs P (o + 1) fs with
      | none => rw [hr] at hk; cases hk
      | some ks' =>
        rw [hr] at hk; cases hk
        exact main _ _ rfl hr (by rw [hu]; exact hP) (by rw [hu]; rfl) (fun ka a c _ w => run_equalIn_int w d f.type ka k a c hP) (fun _ _ e => by cases e) (fun _ _ e => by cases e)
    · rename_i hu
      have hP := und_some hu (by simp)
      cases hr : cmpKs P (o + 1) fs with
      | none => rw [hr] at hk; cases hk
      | some ks' =>
        rw [hr] at hk; cases hk
        exact main _ _ rfl hr (by rw [hu]; exact hP) (by rw [hu]; rfl) (fun _ _ _ e => by cases e) (fun a c _ w => run_equalIn_string w d f.type a c hP) (fun _ _ e => by cases e)
    · rename_i hu
      have hP := und_some hu (by simp)
      cases hr : cmpKs P (o + 1) fs with
      | none => rw [hr] at hk; cases hk
      | some ks' =>
        rw [hr] at hk; cases hk
        exact main _ _ rfl hr (by rw [hu]; exact hP) (by rw [hu]; rfl) (fun _ _ _ e => by cases e) (fun _ _ e => by cases e) (fun a c _ w => run_equalIn_bool' w d f.type a c hP)
    · cases hk
theorem xagg_run {t : TypeId} {xs ys : Array Value} {b : Bool} (h : xagg P t xs.toList ys.toList = some b) (w : World) : (Op.equal t (.agg xs) (.agg ys)).run P w = .ok b w ∧ gl P t = true ∧ xs.all plain1 = true ∧ ys.all plain1 = true := by
  unfold xagg at h
  cases hT : cmpT P t with
  | none => rw [hT] at h; exact xarr_run h w
  | some ks =>
    rw [hT] at h
    unfold cmpT at hT
    split at hT
    · rename_i fs hu
      split at hT
      · rename_i hc
        have hP := und_some hu (by simp)
        have hf : P.fieldsOf t = fs := by unfold Program.fieldsOf; rw [hP]
        obtain ⟨h1, h2, h3⟩ := xcmp_run (P := P) (d := 9998) w (xs := xs) (ys := ys) fs.toList ks 0 b hT (by simpa using h)
        refine ⟨?_, hc.1, by simpa using h2, by simpa using h3⟩
        have := run_equalIn_struct (P := P) w 9999 t xs ys (by rw [hf]; exact hP) hc.2
        rw [hf, h1] at this
        exact this
      · cases hT
    · cases hT
theorem xeqA_run {op : BinOp} {t : TypeId} {x y v : Value} (h : xeqA P op t x y = some v) (ox oy : Operand) (w : World) :
    (do eqGuard op t ox oy x y; binOp op t x y : Sem Value).run P w = .ok v w ∧ plainV x = true ∧ plainV y = true ∧ plainV v = true := by
  unfold xeqA at h
  split at h
  · rename_i xs ys
    cases hx : xagg P t xs.toList ys.toList with
    | none => rw [hx] at h; cases h
    | some b =>
      rw [hx] at h
      cases h
      obtain ⟨h1, h2, h3, h4⟩ := xagg_run hx w
      refine ⟨?_, h3, h4, rfl⟩
      rw [Sem.run_bind, guard_gl h2]
      show ((do pure (.bool (← Op.equal t (.agg xs) (.agg ys))) : Sem Value).run P w) = _
      rw [Sem.run_bind, h1]
      rfl
  · rename_i xs ys
    cases hx : xagg P t xs.toList ys.toList with
    | none => rw [hx] at h; cases h
    | some b =>
      rw [hx] at h
      cases h
      obtain ⟨h1, h2, h3, h4⟩ := xagg_run hx w
      refine ⟨?_, h3, h4, rfl⟩
      rw [Sem.run_bind, guard_gl h2]
      show ((do pure (.bool (!(← Op.equal t (.agg xs) (.agg ys)))) : Sem Value).run P w) = _
      rw [Sem.run_bind, h1]
      rfl
  · cases h
end
end Go.Proofs.YtjfhdckcjkgjnaaDoor
