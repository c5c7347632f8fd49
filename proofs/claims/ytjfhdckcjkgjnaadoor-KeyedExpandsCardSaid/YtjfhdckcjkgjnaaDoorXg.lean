/-
  A list of operations, run by the function; calls by what is told of the callee; a function told by its body. Over any program.
-/
import Derived.Test.YtjfhdckcjkgjnaaDoorXu
namespace Go.Proofs.YtjfhdckcjkgjnaaDoor
open Go Go.RowKit
set_option linter.unusedVariables false

def xop (P : Program) (nro : Nat) (γ : Nat → Option Nat) (op : Op) (α : Fm) (H : AH) : Option (Value × AH) :=
  match xread P γ op α H with
  | some v => some (v, H)
  | none => xeff P nro γ op α H
/-- May this function be called as any other one? -/
def callable (P : Program) (f : FuncId) : Bool :=
  match P.funcs[f]? with
  | some fn => !(fn.name == "runtime.NumGoroutine")
  | none => false
/-- The callee of a call of a function by name. -/
def calleeOf (γ : Nat → Option Nat) (α : Fm) : Op → Option (FuncId × Array Value)
  | .call ⟨.value (.func f), args, _⟩ => some (f, args.map (α.eval γ))
  | _ => none
/-- The callee of a call of a function's value. -/
def calleeX (γ : Nat → Option Nat) (α : Fm) : Op → Option (FuncId × Array Value)
  | .call ⟨.value (.tmp t), args, _⟩ => (match α t with
    | .func (.func f) fs cs => some (f, fs ++ args.map (α.eval γ) ++ cs)
    | _ => none)
  | _ => none
/-- What one operation comes to. -/
inductive St where
  | val (v : Value) (H : AH)
  | call (f : FuncId) (args : Array Value)
  | no
def step1 (P : Program) (nro n : Nat) (γ : Nat → Option Nat) (ops : Array Oper) (o : Oper) (α : Fm) (H : AH) : St :=
  match wantedA ops n α o with
  | none => .no
  | some false => .val undef H
  | some true =>
    match calleeOf γ α o.op with
    | some (f, args) => .call f args
    | none => match xop P nro γ o.op α H with
      | some (v, H') => .val v H'
      | none => match calleeX γ α o.op with
        | some (f, args) => .call f args
        | none => .no
/-- What operations come to. -/
def XL (P : Program) (nro n : Nat) (γ : Nat → Option Nat) (ops : Array Oper) (Q : Fm → AH → Prop) : List Oper → Fm → AH → Prop
  | [], α, H => Q α H
  | o :: rest, α, H =>
    match step1 P nro n γ ops o α H with
    | .no => False
    | .val v H' => XL P nro n γ ops Q rest (α.put o.dst v) H'
    | .call f args => callable P f = true ∧ AC P nro γ f args H fun v H' => XL P nro n γ ops Q rest (α.put o.dst v) H'
/-- The same, of operations that only read, whatever their order. -/
def QL (P : Program) (n : Nat) (γ : Nat → Option Nat) (ops : Array Oper) (Q : Fm → Prop) (H : AH) : List Oper → Fm → Prop
  | [], α => Q α
  | o :: rest, α =>
    match wantedA ops n α o with
    | none => False
    | some false => QL P n γ ops Q H rest (α.put o.dst undef)
    | some true =>
      match calleeOf γ α o.op with
      | some (f, args) => callable P f = true ∧ ∃ v, VC P f args v ∧ (args.all plainV && plainV v) = true ∧ QL P n γ ops Q H rest (α.put o.dst v)
      | none =>
        match xread P γ o.op α H with
        | some v => QL P n γ ops Q H rest (α.put o.dst v)
        | none => False

/-- The same, ahead of operations that write, in the very world. -/
def SL (P : Program) (n : Nat) (γ : Nat → Option Nat) (ops : Array Oper) (Q : Fm → Prop) (H : AH) : List Oper → Fm → Prop
  | [], α => Q α
  | o :: rest, α =>
    match wantedA ops n α o with
    | none => False
    | some false => SL P n γ ops Q H rest (α.put o.dst undef)
    | some true =>
      match xread P γ o.op α H with
      | some v => SL P n γ ops Q H rest (α.put o.dst v)
      | none => False

section
variable {P : Program} {nro n base : Nat} {γ : Nat → Option Nat} {m : List Ent} {H : AH} {α : Fm} {a : Act} {w : World} {Q : Exit → Fm → AH → Prop}

def okL (n : Nat) (γ : Nat → Option Nat) (l : List Oper) : Bool := l.all fun o => o.op.operands.all (okOpd n γ)

theorem callable_run {f : FuncId} (h : callable P f = true) (hbd : bodied P f = true) (args : Array Value) (w : World) : (callFunc f args).run P w = .ok (.enter f args) w := by
  unfold callable at h
  split at h
  · rename_i fn hf
    have h1 : ¬ fn.name = "runtime.NumGoroutine" := by simpa using h
    have h2 : ¬ fn.body = none := by
      intro e
      unfold bodied at hbd
      rw [hf] at hbd
      simp only [e] at hbd
      cases hbd
    simp [callFunc, hf, h1, h2]
  · cases h
theorem call_run {o : Oper} {f : FuncId} {args : Array Operand} {ts : Array TypeId} (ho : o.op = .call ⟨.value (.func f), args, ts⟩) (h : callable P f = true) (hbd : bodied P f = true) (w : World) :
    (execOp a.eval o).run P w = .ok (.enter f (args.map a.eval)) w := by
  have he : a.eval (.func f) = .func (.func f) #[] #[] := rfl
  simp [execOp, ho, resolve, he, Deferred.ofValue, invoke, callable_run h hbd]
theorem call_runV {o : Oper} {f : FuncId} {args : Array Operand} {ts : Array TypeId} {v : Value} (ho : o.op = .call ⟨.value (.func f), args, ts⟩) {w : World} (h : (callFunc f (args.map a.eval)).run P w = .ok (.value v) w) :
    (execOp a.eval o).run P w = .ok (.value v) w := by
  have he : a.eval (.func f) = .func (.func f) #[] #[] := rfl
  simp [execOp, ho, resolve, he, Deferred.ofValue, invoke, h]
theorem args_rel {args : Array Operand} (hR : Rel nro base γ m H w) (hF : FR n m α a) (hok : args.all (okOpd n γ) = true) :
    (args.map a.eval).size = (args.map (α.eval γ)).size ∧ ∀ (i : Nat) (x : Value), (args.map (α.eval γ))[i]? = some x → ∃ y, (args.map a.eval)[i]? = some y ∧ V m x y := by
  refine ⟨by simp, fun i x hx => ?_⟩
  rw [Array.getElem?_map] at hx ⊢
  cases hq : args[i]? with
  | none => rw [hq] at hx; cases hx
  | some q =>
    rw [hq] at hx
    cases hx
    obtain ⟨hi, he⟩ := Array.getElem?_eq_some_iff.1 hq
    exact ⟨_, rfl, hF.eval hR (by rw [← he]; exact (Array.all_eq_true.1 hok) i hi)⟩
theorem callee_ops {o : Oper} {f : FuncId} {args : Array Value} (h : calleeOf γ α o.op = some (f, args)) : ∃ xs ts, o.op = .call ⟨.value (.func f), xs, ts⟩ ∧ args = xs.map (α.eval γ) := by
  unfold calleeOf at h
  split at h
  · rename_i f' xs ts he
    cases h
    exact ⟨xs, ts, he, rfl⟩
  · cases h
theorem xop_av {o : Oper} {v : Value} {H' : AH} (hok : o.op.operands.all (okOpd n γ) = true) (h : xop P nro γ o.op α H = some (v, H')) : AV P nro n γ o α H v H' := by
  unfold xop at h
  split at h
  · rename_i v' hv
    cases h
    exact (xread_aq hok hv).av
  · exact xeff_av hok h
theorem get_app3 {cs as es : Array Value} {i : Nat} {x : Value} (h : (cs ++ as ++ es)[i]? = some x) :
    (i < cs.size ∧ cs[i]? = some x) ∨ (cs.size ≤ i ∧ i < cs.size + as.size ∧ as[i - cs.size]? = some x) ∨ (cs.size + as.size ≤ i ∧ es[i - cs.size - as.size]? = some x) := by
  rcases Nat.lt_or_ge i (cs.size + as.size) with h1 | h1
  · rw [Array.getElem?_append_left (by simpa using h1)] at h
    rcases Nat.lt_or_ge i cs.size with h2 | h2
    · rw [Array.getElem?_append_left h2] at h
      exact .inl ⟨h2, h⟩
    · rw [Array.getElem?_append_right h2] at h
      exact .inr (.inl ⟨h2, h1, h⟩)
  · rw [Array.getElem?_append_right (by simpa using h1)] at h
    exact .inr (.inr ⟨h1, by simpa [Nat.sub_sub] using h⟩)
theorem calleeX_run {o : Oper} {f : FuncId} {args : Array Value} (hR : Rel nro base γ m H w) (hF : FR n m α a) (hok : o.op.operands.all (okOpd n γ) = true) (h : calleeX γ α o.op = some (f, args)) :
    ∃ args' : Array Value, args'.size = args.size ∧ (∀ (i : Nat) (x : Value), args[i]? = some x → ∃ y, args'[i]? = some y ∧ V m x y) ∧
      (callable P f = true → bodied P f = true → (execOp a.eval o).run P w = .ok (.enter f args') w) ∧
      (∀ v, (callFunc f args').run P w = .ok (.value v) w → (execOp a.eval o).run P w = .ok (.value v) w) := by
  unfold calleeX at h
  split at h
  case h_2 => cases h
  rename_i t xs ts ho
  split at h
  case h_2 => cases h
  rename_i f' fs cs hfn
  cases h
  rw [ho] at hok
  have hxs : xs.all (okOpd n γ) = true := by
    rw [Array.all_eq_true] at hok ⊢
    intro i hi
    have := hok (i + 1) (by simp [Op.operands, Call.operands]; omega)
    simpa [Op.operands, Call.operands, Array.getElem_append] using this
  have ht : okOpd n γ (.tmp t) = true := by
    rw [Array.all_eq_true] at hok
    have := hok 0 (by simp [Op.operands, Call.operands]; omega)
    simpa [Op.operands, Call.operands, Array.getElem_append] using this
  obtain ⟨h1, h2⟩ := args_rel hR hF hxs
  have hv := hF.eval hR ht
  rw [show α.eval γ (.tmp t) = α t from rfl, hfn] at hv
  have hv1 := hv.v1 rfl
  obtain ⟨ds, gs, he, k1, k2, k3, k4⟩ : ∃ ds gs, a.eval (.tmp t) = .func (.func f) ds gs ∧ ds.size = fs.size ∧ gs.size = cs.size ∧ (∀ (i : Nat) (x y : Value), fs[i]? = some x → ds[i]? = some y → V1 m x y) ∧ (∀ (i : Nat) (x y : Value), cs[i]? = some x → gs[i]? = some y → V1 m x y) := by
    generalize a.eval (.tmp t) = y at hv1
    cases hv1 with
    | plain hp =>
      have hp' : fs.isEmpty = true ∧ cs.isEmpty = true := by simpa [plain1] using hp
      rw [Array.isEmpty_iff, Array.isEmpty_iff] at hp'
      obtain ⟨rfl, rfl⟩ := hp'
      exact ⟨#[], #[], rfl, rfl, rfl, fun i x y hx => by simp at hx, fun i x y hx => by simp at hx⟩
    | clo k1 k2 k3 k4 => exact ⟨_, _, rfl, k1, k2, k3, k4⟩
  have some_of : ∀ {A : Array Value} {i : Nat}, i < A.size → ∃ y, A[i]? = some y := fun h => ⟨_, Array.getElem?_eq_getElem h⟩
  refine ⟨ds ++ xs.map a.eval ++ gs, by simp only [Array.size_append]; omega, fun i x hx => ?_, fun hcal hbd => ?_, fun v hr => ?_⟩
  · rcases get_app3 hx with ⟨g1, g2⟩ | ⟨g1, g2, g3⟩ | ⟨g1, g2⟩
    · obtain ⟨y, hy⟩ := some_of (A := ds) (i := i) (by omega)
      refine ⟨y, ?_, .one (k3 i x y g2 hy)⟩
      rw [Array.getElem?_append_left (by simp only [Array.size_append]; omega), Array.getElem?_append_left (by omega)]
      exact hy
    · obtain ⟨y, hy, hvy⟩ := h2 _ x g3
      refine ⟨y, ?_, hvy⟩
      rw [Array.getElem?_append_left (by simp only [Array.size_append]; omega), Array.getElem?_append_right (by omega), k1]
      exact hy
    · have hl : i - fs.size - (xs.map (α.eval γ)).size < cs.size := (Array.getElem?_eq_some_iff.1 g2).1
      obtain ⟨y, hy⟩ := some_of (A := gs) (i := i - fs.size - (xs.map (α.eval γ)).size) (by omega)
      refine ⟨y, ?_, .one (k4 _ x y g2 hy)⟩
      rw [Array.getElem?_append_right (by simp only [Array.size_append]; omega)]
      simp only [Array.size_append, k1, h1, ← Nat.sub_sub]
      exact hy
  · simp [execOp, ho, resolve, he, Deferred.ofValue, invoke, callable_run hcal hbd]
  · rw [Array.append_assoc] at hr
    simp [execOp, ho, resolve, he, Deferred.ofValue, invoke, hr]
theorem XL.sound {ops : Array Oper} : ∀ (l : List Oper) (α : Fm) (H : AH), okL n γ l = true → XL P nro n γ ops (Q .normal) l α H → AL P nro n γ ops Q l α H
  | [], α, H, _, h => al_nil h
  | o :: rest, α, H, hok, h => by
    simp only [okL, List.all_cons, Bool.and_eq_true] at hok
    unfold XL at h
    split at h
    · exact h.elim
    · rename_i v H' hst
      unfold step1 at hst
      split at hst
      · cases hst
      · rename_i hw
        cases hst
        exact al_pass hw (XL.sound rest _ _ hok.2 h)
      · rename_i hw
        split at hst
        · cases hst
        · split at hst
          · rename_i v' H'' hx
            cases hst
            exact al_step hw (xop_av hok.1 hx) (XL.sound rest _ _ hok.2 h)
          · split at hst <;> cases hst
    · rename_i f args hst
      unfold step1 at hst
      split at hst
      · cases hst
      · cases hst
      · rename_i hw
        split at hst
        case h_2 =>
          split at hst
          · cases hst
          split at hst
          case h_2 => cases hst
          rename_i f' args' hc
          cases hst
          obtain ⟨hcal, hac⟩ := h
          intro m base w a hR hF
          obtain ⟨args', h1, h2, hrun1, hrun2⟩ := calleeX_run (P := P) hR hF hok.1 hc
          unfold wpList
          rw [wantedA_spec hF hw]
          simp only [if_true]
          refine .inl ?_
          unfold Oper.wp
          rcases hac m base w args' hR h1 h2 with ⟨hbd, hac'⟩ | ⟨v0, hrun, m', v, v', H', he, hm, hv, hR', hb, hx⟩
          · rw [hrun1 hcal hbd, Oper.upon_enter]
            refine hac'.mono ?_
            rintro e w' ⟨m', v, v', H', rfl, hm, hv, hR', hb, hx⟩
            have := XL.sound rest _ _ hok.2 hx m' base w' (a.put o.dst v') hR' ((hF.mono hm).put hv)
            exact wpList_mono (fun e a w hc => hc.trans hm hb) _ _ _ this
          · cases he
            rw [hrun2 v0 hrun, Oper.upon_value]
            have := XL.sound rest _ _ hok.2 hx m' base w (a.put o.dst v0) hR' ((hF.mono hm).put hv)
            exact wpList_mono (fun e a w hc => hc.trans hm hb) _ _ _ this
        rename_i f' args' hc
        cases hst
        obtain ⟨hcal, hac⟩ := h
        obtain ⟨xs, ts, ho, rfl⟩ := callee_ops hc
        intro m base w a hR hF
        unfold wpList
        rw [wantedA_spec hF hw]
        simp only [if_true]
        refine .inl ?_
        unfold Oper.wp
        have hxs : xs.all (okOpd n γ) = true := by
          have := hok.1
          rw [ho] at this
          rw [Array.all_eq_true] at this ⊢
          intro i hi
          have := this (i + 1) (by simp [Op.operands, Call.operands]; omega)
          simpa [Op.operands, Call.operands, Array.getElem_append] using this
        obtain ⟨h1, h2⟩ := args_rel hR hF hxs
        rcases hac m base w (xs.map a.eval) hR h1 h2 with ⟨hbd, hac'⟩ | ⟨v0, hrun, m', v, v', H', he, hm, hv, hR', hb, hx⟩
        · rw [call_run ho hcal hbd, Oper.upon_enter]
          refine hac'.mono ?_
          rintro e w' ⟨m', v, v', H', rfl, hm, hv, hR', hb, hx⟩
          have := XL.sound rest _ _ hok.2 hx m' base w' (a.put o.dst v') hR' ((hF.mono hm).put hv)
          exact wpList_mono (fun e a w hc => hc.trans hm hb) _ _ _ this
        · cases he
          rw [call_runV ho hrun, Oper.upon_value]
          have := XL.sound rest _ _ hok.2 hx m' base w (a.put o.dst v0) hR' ((hF.mono hm).put hv)
          exact wpList_mono (fun e a w hc => hc.trans hm hb) _ _ _ this
theorem aw_ops {id : Nat} {l : List Oper} (hok : okL n γ l = true) (h : ∀ K : Fm → AH → Prop, (∀ α' H', Q .normal α' H' → K α' H') → XL P nro n γ l.toArray K l α H) : AW P nro n γ (.region id l.toArray false) Q α H :=
  aw_region (XL.sound l α H hok (h _ fun _ _ h => h))
theorem aw_t {c : Operand} {x y : Code} (hc : α.eval γ c = .bool true) (ho : okOpd n γ c = true) (h : AW P nro n γ x Q α H) : AW P nro n γ (.cond c x y) Q α H := aw_cond hc ho h
theorem aw_f {c : Operand} {x y : Code} (hc : α.eval γ c = .bool false) (ho : okOpd n γ c = true) (h : AW P nro n γ y Q α H) : AW P nro n γ (.cond c x y) Q α H := aw_cond hc ho h
/-- The function's steps, one at a time: nothing behind is looked at ahead of its time. -/
def XLc (P : Program) (nro n : Nat) (γ : Nat → Option Nat) (ops : Array Oper) (K : Fm → AH → Prop) (r : St) (d : Option Tmp) (rest : List Oper) (α : Fm) (H : AH) : Prop :=
  match r with
  | .no => False
  | .val v H' => XL P nro n γ ops K rest (α.put d v) H'
  | .call f args => callable P f = true ∧ AC P nro γ f args H fun v H' => XL P nro n γ ops K rest (α.put d v) H'
theorem XL_nil {ops : Array Oper} {K : Fm → AH → Prop} : XL P nro n γ ops K [] α H = K α H := rfl
theorem XL_cons {ops : Array Oper} {K : Fm → AH → Prop} (o : Oper) (rest : List Oper) : XL P nro n γ ops K (o :: rest) α H = XLc P nro n γ ops K (step1 P nro n γ ops o α H) o.dst rest α H := by
  unfold XL XLc
  cases step1 P nro n γ ops o α H <;> rfl
theorem XLc_val {ops : Array Oper} {K : Fm → AH → Prop} (v : Value) (H' : AH) (d : Option Tmp) (rest : List Oper) : XLc P nro n γ ops K (.val v H') d rest α H = XL P nro n γ ops K rest (α.put d v) H' := rfl
theorem XLc_call {ops : Array Oper} {K : Fm → AH → Prop} (f : FuncId) (args : Array Value) (d : Option Tmp) (rest : List Oper) :
    XLc P nro n γ ops K (.call f args) d rest α H = (callable P f = true ∧ AC P nro γ f args H fun v H' => XL P nro n γ ops K rest (α.put d v) H') := rfl
def stepN (c : Option (FuncId × Array Value)) : St := match c with | some (f, args) => .call f args | none => .no
def stepX (γ : Nat → Option Nat) (op : Op) (α : Fm) (r : Option (Value × AH)) : St := match r with | some (v, H') => .val v H' | none => stepN (calleeX γ α op)
def stepC (P : Program) (nro : Nat) (γ : Nat → Option Nat) (c : Option (FuncId × Array Value)) (op : Op) (α : Fm) (H : AH) : St :=
  match c with
  | some (f, args) => .call f args
  | none => stepX γ op α (xop P nro γ op α H)
def stepW (P : Program) (nro : Nat) (γ : Nat → Option Nat) (g : Option Bool) (op : Op) (α : Fm) (H : AH) : St :=
  match g with
  | none => .no
  | some false => .val undef H
  | some true => stepC P nro γ (calleeOf γ α op) op α H
theorem step1_eq {ops : Array Oper} (o : Oper) : step1 P nro n γ ops o α H = stepW P nro γ (wantedA ops n α o) o.op α H := by
  unfold step1 stepW
  cases wantedA ops n α o with
  | none => rfl
  | some b =>
    cases b with
    | false => rfl
    | true =>
      simp only [stepC]
      cases calleeOf γ α o.op with
      | some c => rfl
      | none => rfl
theorem stepW_t (op : Op) : stepW P nro γ (some true) op α H = stepC P nro γ (calleeOf γ α op) op α H := rfl
theorem stepW_f (op : Op) : stepW P nro γ (some false) op α H = .val undef H := rfl
theorem stepC_n (op : Op) : stepC P nro γ none op α H = stepX γ op α (xop P nro γ op α H) := rfl
theorem stepC_s (f : FuncId) (args : Array Value) (op : Op) : stepC P nro γ (some (f, args)) op α H = .call f args := rfl
theorem stepX_s (op : Op) (v : Value) (H' : AH) : stepX γ op α (some (v, H')) = .val v H' := rfl
theorem stepX_n (op : Op) : stepX γ op α none = stepN (calleeX γ α op) := rfl
theorem stepN_s (f : FuncId) (args : Array Value) : stepN (some (f, args)) = .call f args := rfl
def xopR (P : Program) (nro : Nat) (γ : Nat → Option Nat) (r : Option Value) (op : Op) (α : Fm) (H : AH) : Option (Value × AH) := match r with | some v => some (v, H) | none => xeff P nro γ op α H
theorem xop_eq (op : Op) : xop P nro γ op α H = xopR P nro γ (xread P γ op α H) op α H := rfl
theorem xopR_s (v : Value) (op : Op) : xopR P nro γ (some v) op α H = some (v, H) := rfl
theorem xopR_n (op : Op) : xopR P nro γ none op α H = xeff P nro γ op α H := rfl
def wantedG (ops : Array Oper) (n : Nat) (α : Fm) (g : Option (Nat × Bool)) : Option Bool :=
  match g with
  | none => some true
  | some (j, want) => match (ops[j]?).bind (·.dst) with | some d => if d < n then wb (α d) want else none | none => none
theorem wantedA_eq {ops : Array Oper} (o : Oper) : wantedA ops n α o = wantedG ops n α o.guard := rfl
theorem wantedG_n {ops : Array Oper} : wantedG ops n α none = some true := rfl
theorem wantedG_s {ops : Array Oper} (j : Nat) (want : Bool) : wantedG ops n α (some (j, want)) = match (ops[j]?).bind (·.dst) with | some d => if d < n then wb (α d) want else none | none => none := rfl
def QLc (P : Program) (n : Nat) (γ : Nat → Option Nat) (ops : Array Oper) (K : Fm → Prop) (H : AH) (r : St) (d : Option Tmp) (rest : List Oper) (α : Fm) : Prop :=
  match r with
  | .no => False
  | .val v _ => QL P n γ ops K H rest (α.put d v)
  | .call f args => callable P f = true ∧ ∃ v, VC P f args v ∧ (args.all plainV && plainV v) = true ∧ QL P n γ ops K H rest (α.put d v)
def stepQX (r : Option Value) (H : AH) : St := match r with | some v => .val v H | none => .no
def stepQC (P : Program) (γ : Nat → Option Nat) (c : Option (FuncId × Array Value)) (op : Op) (α : Fm) (H : AH) : St :=
  match c with
  | some (f, args) => .call f args
  | none => stepQX (xread P γ op α H) H
def stepQ (P : Program) (γ : Nat → Option Nat) (g : Option Bool) (op : Op) (α : Fm) (H : AH) : St :=
  match g with
  | none => .no
  | some false => .val undef H
  | some true => stepQC P γ (calleeOf γ α op) op α H
theorem QL_nil {ops : Array Oper} {K : Fm → Prop} : QL P n γ ops K H [] α = K α := rfl
theorem QL_cons {ops : Array Oper} {K : Fm → Prop} (o : Oper) (rest : List Oper) : QL P n γ ops K H (o :: rest) α = QLc P n γ ops K H (stepQ P γ (wantedA ops n α o) o.op α H) o.dst rest α := by
  unfold QLc stepQ
  rw [QL]
  cases wantedA ops n α o with
  | none => rfl
  | some b =>
    cases b with
    | false => rfl
    | true =>
      simp only [stepQC]
      cases calleeOf γ α o.op with
      | some c => rfl
      | none =>
        simp only [stepQX]
        cases xread P γ o.op α H <;> rfl
theorem QLc_val {ops : Array Oper} {K : Fm → Prop} (v : Value) (H' : AH) (d : Option Tmp) (rest : List Oper) : QLc P n γ ops K H (.val v H') d rest α = QL P n γ ops K H rest (α.put d v) := rfl
theorem QLc_call {ops : Array Oper} {K : Fm → Prop} {f : FuncId} {args : Array Value} {d : Option Tmp} {rest : List Oper} {v : Value} (h1 : callable P f = true) (h2 : VC P f args v) (h3 : (args.all plainV && plainV v) = true)
    (h4 : QL P n γ ops K H rest (α.put d v)) : QLc P n γ ops K H (.call f args) d rest α := ⟨h1, v, h2, h3, h4⟩
theorem stepQ_t (op : Op) : stepQ P γ (some true) op α H = stepQC P γ (calleeOf γ α op) op α H := rfl
theorem stepQ_f (op : Op) : stepQ P γ (some false) op α H = .val undef H := rfl
theorem stepQC_n (op : Op) : stepQC P γ none op α H = stepQX (xread P γ op α H) H := rfl
theorem stepQC_s (f : FuncId) (args : Array Value) (op : Op) : stepQC P γ (some (f, args)) op α H = .call f args := rfl
theorem stepQX_s (v : Value) : stepQX (some v) H = .val v H := rfl
def SLc (P : Program) (n : Nat) (γ : Nat → Option Nat) (ops : Array Oper) (K : Fm → Prop) (H : AH) (r : St) (d : Option Tmp) (rest : List Oper) (α : Fm) : Prop :=
  match r with
  | .val v _ => SL P n γ ops K H rest (α.put d v)
  | _ => False
def stepS (P : Program) (γ : Nat → Option Nat) (g : Option Bool) (op : Op) (α : Fm) (H : AH) : St :=
  match g with
  | none => .no
  | some false => .val undef H
  | some true => stepQX (xread P γ op α H) H
theorem SL_nil {ops : Array Oper} {K : Fm → Prop} : SL P n γ ops K H [] α = K α := rfl
theorem SL_cons {ops : Array Oper} {K : Fm → Prop} (o : Oper) (rest : List Oper) : SL P n γ ops K H (o :: rest) α = SLc P n γ ops K H (stepS P γ (wantedA ops n α o) o.op α H) o.dst rest α := by
  unfold SLc stepS
  rw [SL]
  cases wantedA ops n α o with
  | none => rfl
  | some b =>
    cases b with
    | false => rfl
    | true =>
      simp only [stepQX]
      cases xread P γ o.op α H <;> rfl
theorem SLc_val {ops : Array Oper} {K : Fm → Prop} (v : Value) (H' : AH) (d : Option Tmp) (rest : List Oper) : SLc P n γ ops K H (.val v H') d rest α = SL P n γ ops K H rest (α.put d v) := rfl
theorem stepS_t (op : Op) : stepS P γ (some true) op α H = stepQX (xread P γ op α H) H := rfl
theorem stepS_f (op : Op) : stepS P γ (some false) op α H = .val undef H := rfl
theorem put_at (α : Fm) (d : Nat) (v : Value) (i : Nat) : Fm.put α (some d) v i = if i = d then v else α i := rfl
theorem put_none (α : Fm) (v : Value) : Fm.put α none v = α := rfl
theorem eval_tmp (γ : Nat → Option Nat) (α : Fm) (t : Nat) : Fm.eval γ α (.tmp t) = α t := rfl
theorem eval_const (γ : Nat → Option Nat) (α : Fm) (v : Value) : Fm.eval γ α (.const v) = v := rfl
theorem cells_agg (c : Array Value) : (Value.agg c).cells = c := rfl
theorem cells_int (k : IntKind) (x : Int) : (Value.int k x).cells = #[.int k x] := rfl
theorem cells_bool (b : Bool) : (Value.bool b).cells = #[.bool b] := rfl
theorem cells_string (b : ByteArray) : (Value.string b).cells = #[.string b] := rfl
theorem cells_ptr (b : Option Addr) : (Value.pointer b).cells = #[.pointer b] := rfl
theorem cells_slice (b : Option Addr) (l c : Nat) : (Value.slice b l c).cells = #[.slice b l c] := rfl
theorem hget_app (H L : AH) (k : Nat) : hget (H ++ L) (H.length + k) = hget L k := by
  unfold hget
  rw [List.getElem?_append_right (by omega)]
  congr 2
  omega
theorem hget_app0 (H L : AH) : hget (H ++ L) H.length = hget L 0 := hget_app H L 0
theorem set_app (H L : AH) (k : Nat) (x : Option Blk) : (H ++ L).set (H.length + k) x = H ++ L.set k x := by
  rw [List.set_append_right _ _ (by omega)]
  congr 2
  omega
theorem set_app0 (H L : AH) (x : Option Blk) : (H ++ L).set H.length x = H ++ L.set 0 x := set_app H L 0 x
theorem hget_cons0 (x : Option Blk) (L : AH) : hget (x :: L) 0 = x := by unfold hget; simp
theorem hget_cons (x : Option Blk) (L : AH) (k : Nat) : hget (x :: L) (k + 1) = hget L k := by unfold hget; simp

theorem QL.sound {ops : Array Oper} {Q : Fm → Prop} {K : Act → Prop} (hR : Rel nro base γ m H w) (hK : ∀ a α, FR n m α a → Q α → K a) : ∀ (l : List Oper) (α : Fm) (a : Act), okL n γ l = true → FR n m α a → QL P n γ ops Q H l α →
    wpQuiet P ops (fun w' => Below w.heap.size w w') K l a
  | [], α, a, _, hF, h => hK a α hF h
  | o :: rest, α, a, hok, hF, h => by
    simp only [okL, List.all_cons, Bool.and_eq_true] at hok
    unfold QL at h
    unfold wpQuiet
    split at h
    · exact h.elim
    · rename_i hw
      rw [wantedA_spec hF hw]
      simp only [Bool.false_eq_true, if_false]
      exact QL.sound hR hK rest _ _ hok.2 (hF.put (plainV_mk plainV_undef)) h
    · rename_i hw
      rw [wantedA_spec hF hw]
      simp only [if_true]
      split at h
      · rename_i f args hc
        obtain ⟨hcal, v, hvc, hpl, hrest⟩ := h
        simp only [Bool.and_eq_true] at hpl
        obtain ⟨xs, ts, ho, rfl⟩ := callee_ops hc
        have hxs : xs.all (okOpd n γ) = true := by
          have := hok.1
          rw [ho] at this
          rw [Array.all_eq_true] at this ⊢
          intro i hi
          have := this (i + 1) (by simp [Op.operands, Call.operands]; omega)
          simpa [Op.operands, Call.operands, Array.getElem_append] using this
        obtain ⟨h1, h2⟩ := args_rel hR hF hxs
        have heq : xs.map a.eval = xs.map (α.eval γ) := by
          apply Array.ext_getElem?
          intro i
          cases hq : (xs.map (α.eval γ))[i]? with
          | none => rw [Array.getElem?_eq_none_iff] at hq ⊢; omega
          | some x =>
            obtain ⟨y, hy, hv⟩ := h2 i x hq
            obtain ⟨hi, he⟩ := Array.getElem?_eq_some_iff.1 hq
            rw [hy, hv.eq (by rw [← he]; exact (Array.all_eq_true.1 hpl.1) i hi)]
        refine ⟨v, fun w' hb => ?_, QL.sound hR hK rest _ _ hok.2 (hF.put (plainV_mk hpl.2)) hrest⟩
        unfold Oper.quietAt
        rcases hvc w' with ⟨hbd, hc'⟩ | ⟨v0, hrun, he, hb'⟩
        · rw [call_run ho hcal hbd, heq]
          refine ⟨rfl, hc'.mono ?_⟩
          rintro e w'' ⟨rfl, hb'⟩
          exact ⟨rfl, hb.trans (hb'.mono hb.size)⟩
        · cases he
          rw [call_runV ho (by rw [heq]; exact hrun)]
          exact ⟨rfl, rfl⟩
      · split at h
        · rename_i v hx
          obtain ⟨v', h1, h2⟩ := xread_aq hok.1 hx m base w a hR hF
          refine ⟨v', fun w' hb => ?_, QL.sound hR hK rest _ _ hok.2 (hF.put h1) h⟩
          unfold Oper.quietAt
          rw [h2 w' hb]
          exact ⟨rfl, rfl⟩
        · exact h.elim
/-- A region whose order is drawn, and which only reads. -/
theorem aw_quiet {id : Nat} {l : List Oper} (hm : P.follows .mixedOrders = true) (hB : Region.lexB .any l.toArray = true) (hok : okL n γ l = true)
    (h : ∀ K : Fm → Prop, (∀ α', Q .normal α' H → K α') → QL P n γ l.toArray K H l α) : AW P nro n γ (.region id l.toArray true) Q α H := by
  replace h : QL P n γ l.toArray (fun α' => Q .normal α' H) H l α := h _ fun _ h => h
  intro m base w a hR hF
  refine wp_region_quiet (C := fun w' => Below w.heap.size w w') hm hB ⟨rfl, rfl, rfl, Nat.le_refl _, fun _ _ => rfl⟩ ?_
  have := QL.sound (P := P) (ops := l.toArray) (K := fun a' => ∀ w', Below w.heap.size w w' → Con nro n γ m base w Q .normal a' w') hR
    (fun a' α' hF' hq w' hb => ⟨m, α', H, List.prefix_rfl, hR.below hb, hF', hb.mono hR.base_le, hq⟩) l α a hok hF h
  simpa using this

theorem SL.sound {ops : Array Oper} {Q : Fm → Prop} {K : Act → Prop} (hR : Rel nro base γ m H w) (hK : ∀ a α, FR n m α a → Q α → K a) : ∀ (l : List Oper) (α : Fm) (a : Act), okL n γ l = true → FR n m α a → SL P n γ ops Q H l α →
    wpStill P ops w K l a
  | [], α, a, _, hF, h => hK a α hF h
  | o :: rest, α, a, hok, hF, h => by
    simp only [okL, List.all_cons, Bool.and_eq_true] at hok
    unfold SL at h
    unfold wpStill
    split at h
    · exact h.elim
    · rename_i hw
      rw [wantedA_spec hF hw]
      simp only [Bool.false_eq_true, if_false]
      exact SL.sound hR hK rest _ _ hok.2 (hF.put (plainV_mk plainV_undef)) h
    · rename_i hw
      rw [wantedA_spec hF hw]
      simp only [if_true]
      split at h
      · rename_i v hx
        obtain ⟨v', h1, h2⟩ := xread_aq hok.1 hx m base w a hR hF
        unfold Oper.still
        rw [h2 w (.refl _ _)]
        exact ⟨rfl, SL.sound hR hK rest _ _ hok.2 (hF.put h1) h⟩
      · exact h.elim
theorem okL_take {l : List Oper} (h : okL n γ l = true) (k : Nat) : okL n γ (l.take k) = true ∧ okL n γ (l.drop k) = true := by
  have : okL n γ (l.take k ++ l.drop k) = true := by rw [List.take_append_drop]; exact h
  simp only [okL, List.all_append, Bool.and_eq_true] at this
  exact this
/-- A region whose order is drawn: k operations that only read, then others, one behind the other. -/
theorem aw_tail {id : Nat} {l : List Oper} (k : Nat) (hm : P.follows .mixedOrders = true) (hB : Region.lexTailB .any l.toArray k = true) (hok : okL n γ l = true)
    (h : ∀ K : Fm → AH → Prop, (∀ α' H', Q .normal α' H' → K α' H') → SL P n γ l.toArray (fun α' => XL P nro n γ l.toArray K (l.drop k) α' H) H (l.take k) α) : AW P nro n γ (.region id l.toArray true) Q α H := by
  intro m base w a hR hF
  refine wp_region_still_tail k hm hB ?_
  have hR' : Rel nro base γ m H { w with drawn := w.drawn + 1 } := hR.drewN 1
  refine SL.sound hR' (fun a' α' hF' hq => ?_) (l.take k) α a (okL_take hok k).1 hF (h _ fun _ _ h => h)
  have := XL.sound (Q := Q) _ _ _ (okL_take hok k).2 hq m base _ a' hR' hF'
  refine wpList_mono (fun e a w' hc => ?_) _ _ _ this
  exact Con.trans (w := { w with drawn := w.drawn + 1 }) List.prefix_rfl (Below.drew (.refl base w)) hc

/-- Results. -/
def resL (P : Program) (n : Nat) (α : Fm) (H : AH) : List ResultVar → Option (List Value)
  | [] => some []
  | .tmp t :: r => if t < n then (resL P n α H r).map (α t :: ·) else none
  | .cell d t :: r => if d < n then (match xload P t (α d) H, resL P n α H r with | some v, some l => some (v :: l) | _, _ => none) else none
def resV : List Value → Option Value
  | [v] => some v
  | vs => if vs.all notTuple = true then some (.tuple vs.toArray) else none
def resOne (tmps : Array Value) : ResultVar → Sem Value
  | .tmp t => pure (tmps.getD t undef)
  | .cell d t => do loadVar t (← asAddr (tmps.getD d undef))
theorem results_eq (fn : Func) (tmps : Array Value) : results fn tmps = (do let vs ← fn.results.mapM (resOne tmps); pure (if h : vs.size = 1 then vs[0] else .tuple vs)) := by
  unfold results
  congr 1
theorem resL_run (hR : Rel nro base γ m H w) (hF : FR n m α a) : ∀ (rs : List ResultVar) (vs : List Value), resL P n α H rs = some vs →
    ∃ vs' : List Value, vs'.length = vs.length ∧ (∀ (i : Nat) (x : Value), vs[i]? = some x → ∃ y, vs'[i]? = some y ∧ V m x y) ∧
      (rs.mapM (resOne a.tmps)).run P w = .ok vs' w
  | [], vs, h => by
    cases h
    exact ⟨[], rfl, by simp, by simp⟩
  | .tmp t :: r, vs, h => by
    unfold resL at h
    split at h
    case isFalse => cases h
    rename_i ht
    cases hr : resL P n α H r with
    | none => rw [hr] at h; cases h
    | some l =>
      rw [hr] at h
      cases h
      obtain ⟨l', h1, h2, h3⟩ := resL_run hR hF r l hr
      refine ⟨a.tmps.getD t undef :: l', by simp [h1], fun i x hx => ?_, ?_⟩
      · cases i with
        | zero => simp at hx; subst hx; exact ⟨_, rfl, hF.val t ht⟩
        | succ i => simp at hx; simpa using h2 i x hx
      · simp only [List.mapM_cons, resOne, Sem.run_bind, Sem.run_pure, Result.andThen_ok, h3]
  | .cell d t :: r, vs, h => by
    unfold resL at h
    split at h
    case isFalse => cases h
    rename_i ht
    split at h
    · rename_i v l hv hr
      cases h
      obtain ⟨l', h1, h2, h3⟩ := resL_run hR hF r l hr
      obtain ⟨v', h4, h5⟩ := xload_run hR (hF.val d ht) hv
      have hp : ∃ ad, a.tmps.getD d undef = .pointer (some ad) := by
        have hvv := hF.val d ht
        unfold xload at hv
        split at hv
        · rename_i i off he
          rw [he] at hvv
          obtain ⟨e, _, h⟩ := hvv.ptr_
          exact ⟨_, h⟩
        · cases hv
      obtain ⟨ad, hp⟩ := hp
      have h6 := h5 w (.refl _ _)
      rw [hp] at h6
      have h7 : (loadVar t ad).run P w = .ok v' w := by simpa [Instr.loadAt, Instr.sureAddr] using h6
      refine ⟨v' :: l', by simp [h1], fun i x hx => ?_, ?_⟩
      · cases i with
        | zero => simp at hx; subst hx; exact ⟨_, rfl, h4⟩
        | succ i => simp at hx; simpa using h2 i x hx
      · simp only [List.mapM_cons, resOne, Sem.run_bind, hp, asAddr, Sem.run_pure, Result.andThen_ok, h7, h3]
    · cases h
theorem results_run {fn : Func} (hR : Rel nro base γ m H w) (hF : FR n m α a) {vs : List Value} {v : Value} (h1 : resL P n α H fn.results.toList = some vs) (h2 : resV vs = some v) :
    ∃ v', (results fn a.tmps).run P w = .ok v' w ∧ V m v v' := by
  obtain ⟨vs', h3, h4, h5⟩ := resL_run hR hF fn.results.toList vs h1
  have hrun : (fn.results.mapM (resOne a.tmps)).run P w = .ok vs'.toArray w := by
    rw [Array.mapM_eq_mapM_toList]
    simp [h5]
  unfold resV at h2
  split at h2
  · cases h2
    match vs', h3 with
    | [v'], _ =>
      obtain ⟨y, hy, hv⟩ := h4 0 v rfl
      cases hy
      refine ⟨v', ?_, hv⟩
      rw [results_eq, Sem.run_bind, hrun]
      simp
  · rename_i hne
    split at h2
    case isFalse => cases h2
    rename_i hall
    cases h2
    refine ⟨.tuple vs'.toArray, ?_, .tup (by simp [h3]) (fun i x hx => ?_)⟩
    · rw [results_eq, Sem.run_bind, hrun]
      have : ¬ vs'.length = 1 := by
        intro h
        match vs, h3, hne with
        | [], h3, _ => simp at h3; simp [h3] at h
        | [v], _, hne => exact hne v rfl
        | _ :: _ :: _, h3, _ => simp at h3; omega
      simp [this]
    · obtain ⟨y, hy, hv⟩ := h4 i x (by simpa using hx)
      exact ⟨y, by simpa using hy, hv.v2 (List.all_eq_true.1 hall x (List.mem_of_getElem? (by simpa using hx)))⟩

/-- The frame at a function's beginning. -/
def fr0 (args : List Value) : Fm := fun i => args.getD i undef
theorem fr0_at (l : List Value) (i : Nat) : fr0 l i = l.getD i undef := rfl
/-- What a function's body must come to. -/
def RQ (P : Program) (n : Nat) (rs : List ResultVar) (Q : Value → AH → Prop) : Exit → Fm → AH → Prop
  | .normal, α, H | .ret, α, H => ∃ vs v, resL P n α H rs = some vs ∧ resV vs = some v ∧ Q v H
  | _, _, _ => False
theorem ac_of_aw {f : FuncId} {fn : Func} {c : Code} {args : Array Value} {rs : Array ResultVar} {Q : Value → AH → Prop} (hf : P.funcs[f]? = some fn) (hb : fn.body = some c) (hn : fn.ntmps = n) (hrs : fn.results = rs) (hs : args.size ≤ n)
    (h : AW P nro n γ c (RQ P n rs.toList Q) (fr0 args.toList) H) : AC P nro γ f args H Q := by
  subst hn hrs
  intro m base w args' hR hsz hv
  refine .inl ⟨by unfold bodied; rw [hf]; simp [hb], ?_⟩
  refine calls_of_wp hf hb ?_
  have hF : FR fn.ntmps m (fr0 args.toList) { tmps := args' ++ Array.replicate (fn.ntmps - args'.size) undef, defers := [] } := by
    refine ⟨rfl, by simp; omega, fun i hi => ?_⟩
    unfold fr0
    rcases Nat.lt_or_ge i args.size with hl | hl
    · obtain ⟨y, h1, h2⟩ := hv i args[i] (Array.getElem?_eq_getElem hl)
      have hl' : i < args'.size := by omega
      rw [Array.getElem?_eq_getElem hl'] at h1
      cases h1
      have e1 : args.toList.getD i undef = args[i] := by simp [List.getD_eq_getElem?_getD, hl]
      have e2 : (args' ++ Array.replicate (fn.ntmps - args'.size) undef).getD i undef = args'[i] := by
        simp [Array.getD_eq_getD_getElem?, Array.getElem?_append_left hl', Array.getElem?_eq_getElem hl']
      rw [e1, e2]
      exact h2
    · have e1 : args.toList.getD i undef = undef := by simp [List.getD_eq_getElem?_getD, hl]
      have e2 : (args' ++ Array.replicate (fn.ntmps - args'.size) undef).getD i undef = undef := by
        simp only [Array.getD_eq_getD_getElem?]
        rw [Array.getElem?_append_right (by omega)]
        have : i - args'.size < fn.ntmps - args'.size := by omega
        simp [this]
      rw [e1, e2]
      exact plainV_mk plainV_undef
  refine Code.wp_mono ?_ (h m base w _ hR hF)
  rintro e a' w' ⟨m', α', H', hm, hR', hF', hb', hq⟩
  cases e with
  | normal =>
    obtain ⟨vs, v, h1, h2, h3⟩ := hq
    obtain ⟨v', h4, h5⟩ := results_run hR' hF' h1 h2
    exact ⟨hF'.defers, v', h4, m', v, v', H', rfl, hm, h5, hR', hb', h3⟩
  | ret =>
    obtain ⟨vs, v, h1, h2, h3⟩ := hq
    obtain ⟨v', h4, h5⟩ := results_run hR' hF' h1 h2
    exact ⟨hF'.defers, v', h4, m', v, v', H', rfl, hm, h5, hR', hb', h3⟩
  | _ => exact hq.elim
/-- No package-level variable is looked at. -/
def noG : Nat → Option Nat := fun _ => none
theorem vc_of_ac {f : FuncId} {args : Array Value} {v : Value} (ha : args.all plainV = true) (hv : plainV v = true) (h : AC P 0 noG f args [] fun v' _ => v' = v) : VC P f args v := by
  intro w
  have hR : Rel 0 w.heap.size noG [] [] w := ⟨rfl, Nat.le_refl _, Nat.le_refl _, by simp, by simp, by simp, by simp, by simp, fun g i h => by cases h⟩
  refine (h [] w.heap.size w args hR rfl (fun i x hx => ⟨x, hx, plainV_mk ?_⟩)).mono ?_
  · obtain ⟨hi, he⟩ := Array.getElem?_eq_some_iff.1 hx
    rw [← he]
    exact (Array.all_eq_true.1 ha) i hi
  · rintro e w' ⟨m', v1, v', H', rfl, _, h2, _, h4, rfl⟩
    exact ⟨by rw [h2.eq hv], h4⟩
/-- A function of plain values, called among others: nothing is turned. -/
theorem ac_of_vc {f : FuncId} {args : Array Value} {v : Value} {Q : Value → AH → Prop} (ha : (args.all plainV && plainV v) = true) (h : VC P f args v) (hq : Q v H) : AC P nro γ f args H Q := by
  simp only [Bool.and_eq_true] at ha
  intro m base w args' hR hsz hv
  have heq : args' = args := by
    apply Array.ext_getElem?
    intro i
    cases hq : args[i]? with
    | none => rw [Array.getElem?_eq_none_iff] at hq ⊢; omega
    | some x =>
      obtain ⟨y, hy, hv⟩ := hv i x hq
      obtain ⟨hi, he⟩ := Array.getElem?_eq_some_iff.1 hq
      rw [hy, hv.eq (by rw [← he]; exact (Array.all_eq_true.1 ha.1) i hi)]
  subst heq
  refine (h w).mono ?_
  rintro e w' ⟨rfl, hb⟩
  exact ⟨m, v, v, H, rfl, List.prefix_rfl, plainV_mk ha.2, hR.below hb, hb.mono hR.base_le, hq⟩
end
end Go.Proofs.YtjfhdckcjkgjnaaDoor
