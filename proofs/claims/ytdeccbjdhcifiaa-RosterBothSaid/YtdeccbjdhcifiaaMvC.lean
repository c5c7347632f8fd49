/-
  A region whose order is drawn, with calls that turn memory: the calls stand in one row, whatever else there is only looks at temporaries and at blocks that stay. Over any program.
  A function's contract over blocks that it only reads, where they may be turned behind it. Over any program.
  A region whose order is drawn, without calls: each order told. Over any program.
  A region whose order is drawn, with calls: the orders as a tree. Over any program.
  A region whose order is drawn: pure operations first, wherever they are drawn; what is left, calls among it, each order told (a tree). Over any program.
-/
import Derived.Test.YtdeccbjdhcifiaaMvB
namespace Go.Proofs.Ytdeccbjdhcifiaa
open Go Go.RowKit
set_option linter.unusedSimpArgs false
set_option linter.unusedVariables false
set_option maxRecDepth 100000
set_option maxHeartbeats 4000000
section
def inS (S : Nat → Bool) : Value → Bool
  | .pointer (some ⟨i, _, _⟩) => S i
  | .slice (some ⟨i, _, _⟩) _ _ => S i
  | .map (some i) => S i
  | _ => true
def inSp (S : Nat → Bool) : Value → Bool
  | .pointer (some ⟨i, _, _⟩) => S i
  | _ => true
def memS (γ : Nat → Option Nat) (S : Nat → Bool) (op : Op) (α : Fm) : Bool :=
  match op with
  | .load _ x => inS S (α.eval γ x)
  | .convert _ _ x => inS S (α.eval γ x)
  | .slice _ x _ _ _ => inSp S (α.eval γ x)
  | .lookup _ x _ _ => inS S (α.eval γ x)
  | _ => true
theorem xread_same {P : Program} {γ : Nat → Option Nat} {S : Nat → Bool} {op : Op} {α : Fm} {G H : AH} (hs : memS γ S op α = true) (h : ∀ j, S j = true → hget G j = hget H j) : xread P γ op α G = xread P γ op α H := by
  have hl : ∀ t x, inS S x = true → xload P t x G = xload P t x H := fun t x hx => by
    unfold xload
    split
    · rename_i i off
      rw [h i hx]
    · rfl
  have hc : ∀ s d x, inS S x = true → xconv P s d x G = xconv P s d x H := fun s d x hx => by
    unfold xconv
    split
    · rfl
    · rfl
    · rfl
    · rename_i i off len c hd
      rw [h i hx]
    · rfl
  have hsl : ∀ t x lo hi, inSp S x = true → xslice P t x lo hi G = xslice P t x lo hi H := fun t x lo hi hx => by
    unfold xslice
    split
    · rfl
    · rename_i n e i off hu
      rw [h i hx]
    · rfl
    · rfl
    · rfl
    · rfl
  have hlk : ∀ t x i ok, inS S x = true → xlookup P t x i ok G = xlookup P t x i ok H := fun t x i ok hx => by
    unfold xlookup
    split
    · rename_i kt et j hu
      rw [h j hx]
    · rfl
  cases op <;> first | rfl | exact hl _ _ hs | exact hc _ _ _ hs | exact hlk _ _ _ _ hs | skip
  case slice t x lo hi mx =>
    cases mx with
    | none => exact hsl _ _ _ _ hs
    | some _ => rfl
  case makeFunc fn fs cs => cases fn <;> rfl
def effF : Op → Bool
  | .store .. | .alloc .. | .box .. | .buildSlice .. | .makeSlice .. | .makeMap .. | .mapUpdate .. => true
  | .call ⟨.builtin .append, _, _⟩ | .call ⟨.builtin .copy, _, _⟩ => true
  | _ => false
def isCallU : Op → Bool
  | .call ⟨.value (.tmp _), _, _⟩ => true
  | _ => false
def isCallH (op : Op) : Bool := isCallF op || isCallU op
def calleeH (γ : Nat → Option Nat) (α : Fm) (op : Op) : Option (FuncId × Array Value) := match calleeOf γ α op with | some c => some c | none => calleeX γ α op
theorem calleeH_f (γ : Nat → Option Nat) (α : Fm) (f : FuncId) (as : Array Operand) (ts : Array TypeId) : calleeH γ α (.call ⟨.value (.func f), as, ts⟩) = some (f, as.map (α.eval γ)) := rfl
theorem calleeH_t (γ : Nat → Option Nat) (α : Fm) (t : Tmp) (as : Array Operand) (ts : Array TypeId) : calleeH γ α (.call ⟨.value (.tmp t), as, ts⟩) = calleeX γ α (.call ⟨.value (.tmp t), as, ts⟩) := rfl
def chainF (op : Op) : Bool := isCallH op || effF op
def CL (P : Program) (nro n : Nat) (γ : Nat → Option Nat) (ops : Array Oper) (S : Nat → Bool) (Φ : Nat → AH → Prop) (H : AH) (K : Fm → AH → Prop) : List Oper → Nat → Fm → Prop
  | [], s, α => ∀ G, Φ s G → K α G
  | o :: rest, s, α =>
    match wantedA ops n α o with
    | none => False
    | some false => if chainF o.op = true then (∀ G, Φ s G → Φ (s + 1) G) ∧ CL P nro n γ ops S Φ H K rest (s + 1) (α.put o.dst undef) else CL P nro n γ ops S Φ H K rest s (α.put o.dst undef)
    | some true =>
      if isCallH o.op = true then
        ∃ f args, calleeH γ α o.op = some (f, args) ∧ callable P f = true ∧ ∃ v, (∀ G, Φ s G → AC P nro γ f args G (fun v' G' => v' = v ∧ Φ (s + 1) G')) ∧ CL P nro n γ ops S Φ H K rest (s + 1) (α.put o.dst v)
      else if effF o.op = true then ∃ v, (∀ G, Φ s G → ∃ G', xeff P nro γ o.op α G = some (v, G') ∧ Φ (s + 1) G') ∧ CL P nro n γ ops S Φ H K rest (s + 1) (α.put o.dst v)
      else ∃ v, xread P γ o.op α H = some v ∧ memS γ S o.op α = true ∧ CL P nro n γ ops S Φ H K rest s (α.put o.dst v)
section
variable {P : Program} {nro n base : Nat} {γ : Nat → Option Nat} {m : List Ent} {H : AH} {α : Fm} {a : Act} {w : World} {Q : Exit → Fm → AH → Prop} {ops : Array Oper} {S : Nat → Bool} {Φ : Nat → AH → Prop} {K : Fm → AH → Prop}
def CLc (P : Program) (nro n : Nat) (γ : Nat → Option Nat) (ops : Array Oper) (S : Nat → Bool) (Φ : Nat → AH → Prop) (H : AH) (K : Fm → AH → Prop) (g : Option Bool) (c e : Bool) (op : Op) (r : Option Value) (cal : Option (FuncId × Array Value)) (mm : Bool) (d : Option Tmp) (rest : List Oper) (s : Nat) (α : Fm) : Prop :=
  match g with
  | none => False
  | some false => if (c || e) = true then (∀ G, Φ s G → Φ (s + 1) G) ∧ CL P nro n γ ops S Φ H K rest (s + 1) (α.put d undef) else CL P nro n γ ops S Φ H K rest s (α.put d undef)
  | some true =>
    if c = true then ∃ f args, cal = some (f, args) ∧ callable P f = true ∧ ∃ v, (∀ G, Φ s G → AC P nro γ f args G (fun v' G' => v' = v ∧ Φ (s + 1) G')) ∧ CL P nro n γ ops S Φ H K rest (s + 1) (α.put d v)
    else if e = true then ∃ v, (∀ G, Φ s G → ∃ G', xeff P nro γ op α G = some (v, G') ∧ Φ (s + 1) G') ∧ CL P nro n γ ops S Φ H K rest (s + 1) (α.put d v)
    else ∃ v, r = some v ∧ mm = true ∧ CL P nro n γ ops S Φ H K rest s (α.put d v)
theorem CL_nil (s : Nat) : CL P nro n γ ops S Φ H K [] s α = ∀ G, Φ s G → K α G := rfl
theorem CL_cons (o : Oper) (rest : List Oper) (s : Nat) : CL P nro n γ ops S Φ H K (o :: rest) s α = CLc P nro n γ ops S Φ H K (wantedA ops n α o) (isCallH o.op) (effF o.op) o.op (xread P γ o.op α H) (calleeH γ α o.op) (memS γ S o.op α) o.dst rest s α := by
  unfold CLc
  rw [CL]
  cases wantedA ops n α o with
  | none => rfl
  | some b =>
    cases b <;> rfl
theorem CLc_val (v : Value) (op : Op) (cal : Option (FuncId × Array Value)) (d : Option Tmp) (rest : List Oper) (s : Nat) : CLc P nro n γ ops S Φ H K (some true) false false op (some v) cal true d rest s α = CL P nro n γ ops S Φ H K rest s (α.put d v) := by
  simp [CLc]
theorem CLc_skip (op : Op) (r : Option Value) (cal : Option (FuncId × Array Value)) (mm : Bool) (d : Option Tmp) (rest : List Oper) (s : Nat) : CLc P nro n γ ops S Φ H K (some false) false false op r cal mm d rest s α = CL P nro n γ ops S Φ H K rest s (α.put d undef) := by
  simp [CLc]
theorem CLc_call {f : FuncId} {args : Array Value} {op : Op} {e : Bool} {r : Option Value} {mm : Bool} {d : Option Tmp} {rest : List Oper} {s : Nat} {v : Value} (h1 : callable P f = true) (h2 : ∀ G, Φ s G → AC P nro γ f args G (fun v' G' => v' = v ∧ Φ (s + 1) G')) (h3 : CL P nro n γ ops S Φ H K rest (s + 1) (α.put d v)) :
    CLc P nro n γ ops S Φ H K (some true) true e op r (some (f, args)) mm d rest s α := ⟨f, args, rfl, h1, v, h2, h3⟩
theorem CLc_eff {op : Op} {r : Option Value} {cal : Option (FuncId × Array Value)} {mm : Bool} {d : Option Tmp} {rest : List Oper} {s : Nat} {v : Value} (h2 : ∀ G, Φ s G → ∃ G', xeff P nro γ op α G = some (v, G') ∧ Φ (s + 1) G') (h3 : CL P nro n γ ops S Φ H K rest (s + 1) (α.put d v)) :
    CLc P nro n γ ops S Φ H K (some true) false true op r cal mm d rest s α := ⟨v, h2, h3⟩
def isCallAt (ops : Array Oper) (i : Nat) : Bool := match ops[i]? with | some o => chainF o.op | none => false
def cntK (ops : Array Oper) : Nat → Nat
  | 0 => 0
  | i + 1 => if isCallAt ops i = true then cntK ops i + 1 else cntK ops i
theorem cntK_mono {ops : Array Oper} {i j : Nat} (h : i ≤ j) : cntK ops i ≤ cntK ops j := by
  induction j with
  | zero => have : i = 0 := by omega
            subst this; exact Nat.le_refl _
  | succ j ih =>
    rcases Nat.eq_or_lt_of_le h with rfl | h
    · exact Nat.le_refl _
    · have := ih (by omega)
      rw [cntK]
      split <;> omega
theorem cntK_lt {ops : Array Oper} {i j : Nat} (h : i < j) (hi : isCallAt ops i = true) : cntK ops i < cntK ops j := by
  have := cntK_mono (ops := ops) (show i + 1 ≤ j by omega)
  rw [cntK, if_pos hi] at this
  omega
theorem cntK_prev {ops : Array Oper} : ∀ {i : Nat}, 0 < cntK ops i → ∃ j, j < i ∧ isCallAt ops j = true ∧ cntK ops j + 1 = cntK ops i
  | 0, h => by simp [cntK] at h
  | i + 1, h => by
    rw [cntK] at h ⊢
    split at h
    · rename_i hc
      rw [if_pos hc]
      exact ⟨i, by omega, hc, rfl⟩
    · rename_i hc
      rw [if_neg hc]
      obtain ⟨j, h1, h2, h3⟩ := cntK_prev h
      exact ⟨j, by omega, h2, h3⟩
def StepK (P : Program) (nro n : Nat) (γ : Nat → Option Nat) (ops : Array Oper) (S : Nat → Bool) (Φ : Nat → AH → Prop) (H : AH) (o : Oper) (s : Nat) (β : Fm) (v : Value) : Prop :=
  (wantedA ops n β o = some false ∧ v = undef ∧ (chainF o.op = true → ∀ G, Φ s G → Φ (s + 1) G)) ∨
  (wantedA ops n β o = some true ∧ isCallH o.op = true ∧ ∃ f args, calleeH γ β o.op = some (f, args) ∧ callable P f = true ∧ ∀ G, Φ s G → AC P nro γ f args G (fun v' G' => v' = v ∧ Φ (s + 1) G')) ∨
  (wantedA ops n β o = some true ∧ chainF o.op = false ∧ xread P γ o.op β H = some v ∧ memS γ S o.op β = true) ∨
  (wantedA ops n β o = some true ∧ chainF o.op = true ∧ isCallH o.op = false ∧ ∀ G, Φ s G → ∃ G', xeff P nro γ o.op β G = some (v, G') ∧ Φ (s + 1) G')
theorem CL.unroll : ∀ (l : List Oper) (k s : Nat) (α : Fm), (∀ i o, l[i]? = some o → ops[k + i]? = some o) → CL P nro n γ ops S Φ H K l s α →
    ∃ (val : Nat → Value) (fr : Nat → Fm) (st : Nat → Nat), fr 0 = α ∧ st 0 = s ∧ (∀ i o, l[i]? = some o → StepK P nro n γ ops S Φ H o (st i) (fr i) (val i) ∧ fr (i + 1) = (fr i).put o.dst (val i) ∧ st (i + 1) = if chainF o.op = true then st i + 1 else st i) ∧ ∀ G, Φ (st l.length) G → K (fr l.length) G
  | [], k, s, α, hl, h => ⟨fun _ => undef, fun _ => α, fun _ => s, rfl, rfl, fun i o hi => by simp at hi, h⟩
  | o :: rest, k, s, α, hl, h => by
    have ho := hl 0 o rfl
    have hr : ∀ i o', rest[i]? = some o' → ops[k + 1 + i]? = some o' := fun i o' hi => by
      have := hl (i + 1) o' (by simpa using hi)
      rwa [show k + (i + 1) = k + 1 + i by omega] at this
    have go : ∀ (v : Value) (s' : Nat), StepK P nro n γ ops S Φ H o s α v → s' = (if chainF o.op = true then s + 1 else s) → CL P nro n γ ops S Φ H K rest s' (α.put o.dst v) →
        ∃ (val : Nat → Value) (fr : Nat → Fm) (st : Nat → Nat), fr 0 = α ∧ st 0 = s ∧ (∀ i o', (o :: rest)[i]? = some o' → StepK P nro n γ ops S Φ H o' (st i) (fr i) (val i) ∧ fr (i + 1) = (fr i).put o'.dst (val i) ∧ st (i + 1) = if chainF o'.op = true then st i + 1 else st i) ∧ ∀ G, Φ (st (o :: rest).length) G → K (fr (o :: rest).length) G := by
      intro v s' hst hs' hc
      obtain ⟨val, fr, st, h1, h2, h3, h4⟩ := CL.unroll rest (k + 1) s' _ hr hc
      refine ⟨fun i => match i with | 0 => v | i + 1 => val i, fun i => match i with | 0 => α | i + 1 => fr i, fun i => match i with | 0 => s | i + 1 => st i, rfl, rfl, fun i o' hi => ?_, h4⟩
      cases i with
      | zero =>
        simp at hi
        subst hi
        exact ⟨hst, h1, by show st 0 = _; rw [h2, hs']⟩
      | succ i => exact h3 i o' (by simpa using hi)
    unfold CL at h
    cases hw : wantedA ops n α o with
    | none => rw [hw] at h; exact h.elim
    | some b =>
      rw [hw] at h
      cases b with
      | false =>
        cases hc : chainF o.op with
        | true =>
          simp only [hc, if_true] at h
          exact go undef (s + 1) (.inl ⟨hw, rfl, fun _ => h.1⟩) (by simp [hc]) h.2
        | false =>
          simp only [hc, Bool.false_eq_true, if_false] at h
          exact go undef s (.inl ⟨hw, rfl, fun e => by rw [hc] at e; cases e⟩) (by simp [hc]) h
      | true =>
        cases hc : isCallH o.op with
        | true =>
          simp only [hc, if_true] at h
          obtain ⟨f, args, h1, h2, v, h3, h4⟩ := h
          exact go v (s + 1) (.inr (.inl ⟨hw, hc, f, args, h1, h2, h3⟩)) (by simp [chainF, hc]) h4
        | false =>
          cases he : effF o.op with
          | true =>
            simp only [hc, he, Bool.false_eq_true, if_false, if_true] at h
            obtain ⟨v, h1, h2⟩ := h
            exact go v (s + 1) (.inr (.inr (.inr ⟨hw, by simp [chainF, he], hc, h1⟩))) (by simp [chainF, he]) h2
          | false =>
            simp only [hc, he, Bool.false_eq_true, if_false] at h
            obtain ⟨v, h1, h2, h3⟩ := h
            exact go v s (.inr (.inr (.inl ⟨hw, by simp [chainF, hc, he], h1, h2⟩))) (by simp [chainF, hc, he]) h3
def chainB (ops : Array Oper) : Bool :=
  (List.range ops.size).all fun i => match ops[i]? with
    | none => false
    | some o => (o.after.all fun e => !(Region.binds .any e) || decide (e.on < i)) &&
      ((List.range ops.size).all fun j => decide (j = i) || (match dstO ops j with
        | none => true
        | some t => decide (dstO ops i ≠ some t) && (!((o.looksAt ops).contains t) || (decide (j < i) && Region.waitsFor .any ops i j) || (decide (i < j) && Region.waitsFor .any ops j i)))) &&
      (!(chainF o.op) || (List.range i).all fun j => !(isCallAt ops j) || waitsT ops ops.size i j)
def unl (listed : Array Bool) : Nat → Nat
  | 0 => 0
  | k + 1 => unl listed k + if listed.getD k true = false then 1 else 0
theorem unl_same {listed : Array Bool} {i : Nat} : ∀ {k : Nat}, k ≤ i → unl (listed.setIfInBounds i true) k = unl listed k
  | 0, _ => rfl
  | k + 1, h => by
    have := unl_same (listed := listed) (i := i) (k := k) (by omega)
    simp only [unl]
    rw [this, getD_set_ne true (by omega)]
theorem unl_set {listed : Array Bool} {i : Nat} (hl : i < listed.size) (hi : listed.getD i true = false) : ∀ {k : Nat}, i < k → unl (listed.setIfInBounds i true) k + 1 = unl listed k
  | 0, h => by omega
  | k + 1, h => by
    simp only [unl]
    by_cases e : i = k
    · subst e
      rw [unl_same (k := i) (Nat.le_refl _), hi]
      have : (listed.setIfInBounds i true).getD i true = true := by simp [hl]
      rw [this]; simp
    · rw [getD_set_ne true e]
      have h2 := unl_set (listed := listed) hl hi (k := k) (by omega)
      omega
theorem unl_zero {listed : Array Bool} : ∀ {k : Nat}, unl listed k = 0 → ∀ i, i < k → listed.getD i true = true
  | 0, _, i, hi => by omega
  | k + 1, h, i, hi => by
    rw [unl] at h
    by_cases e : i = k
    · subst e
      cases hq : listed.getD i true with
      | true => rfl
      | false => rw [hq] at h; simp at h
    · exact unl_zero (listed := listed) (k := k) (by omega) i (by omega)
theorem unl_all (k n : Nat) (h : k ≤ n) : unl (Array.replicate n false) k = k := by
  induction k with
  | zero => rfl
  | succ k ih =>
    rw [unl, ih (by omega)]
    have : (Array.replicate n false).getD k true = false := by simp [show k < n by omega]
    rw [this]; simp
theorem getD_tf {l : Array Bool} {i : Nat} (h : i < l.size) : l.getD i true = l.getD i false := by simp [h]
theorem rep_getD (n i : Nat) : (Array.replicate n false).getD i false = false := by
  rw [Array.getD_eq_getD_getElem?, Array.getElem?_replicate]
  split <;> rfl
structure KInv (P : Program) (nro n base : Nat) (γ : Nat → Option Nat) (ops : Array Oper) (Φ : Nat → AH → Prop) (m0 : List Ent) (w0 : World) (α : Fm) (val : Nat → Value) (listed : Array Bool) (a : Act) (w : World) (m : List Ent) (G : AH) (α' : Fm) (s : Nat) : Prop where
  pre : m0 <+: m
  rel : Rel nro base γ m G w
  fr : FR n m α' a
  below : Below base w0 w
  phi : Φ s G
  stage : ∀ i, isCallAt ops i = true → (listed.getD i false = true ↔ cntK ops i < s)
  got : ∀ i t, listed.getD i false = true → dstO ops i = some t → α' t = val i
  old : ∀ t, (∀ i, listed.getD i false = true → dstO ops i ≠ some t) → α' t = α t
  sle : s ≤ cntK ops ops.size
theorem calleeH_ev {o : Oper} {f : FuncId} {args : Array Value} {a : Act} {w : World} (ev : ∀ x ∈ o.op.operands, V m (α.eval γ x) (a.eval x)) (h : calleeH γ α o.op = some (f, args)) :
    ∃ args' : Array Value, args'.size = args.size ∧ (∀ (i : Nat) (x : Value), args[i]? = some x → ∃ y, args'[i]? = some y ∧ V m x y) ∧
      (callable P f = true → bodied P f = true → (execOp a.eval o).run P w = .ok (.enter f args') w) ∧
      (∀ v, (callFunc f args').run P w = .ok (.value v) w → (execOp a.eval o).run P w = .ok (.value v) w) := by
  unfold calleeH at h
  cases hc : calleeOf γ α o.op with
  | none => rw [hc] at h; exact calleeX_ev ev h
  | some c =>
    rw [hc] at h
    cases h
    obtain ⟨xs, ts, hop, rfl⟩ := callee_ops hc
    have hxs : ∀ x ∈ xs, x ∈ o.op.operands := fun x hx => by
      rw [hop]
      simp only [Op.operands, Call.operands]
      exact Array.mem_append.2 (.inr hx)
    refine ⟨xs.map a.eval, by simp, fun k x hx => ?_, fun hcal hbd => call_run hop hcal hbd w, fun v hr => call_runV hop hr⟩
    rw [Array.getElem?_map] at hx ⊢
    cases hq : xs[k]? with
    | none => rw [hq] at hx; cases hx
    | some q =>
      rw [hq] at hx
      cases hx
      exact ⟨_, rfl, ev q (hxs q (by obtain ⟨hk, he⟩ := Array.getElem?_eq_some_iff.1 hq; rw [← he]; exact Array.getElem_mem hk))⟩
theorem chain_run {l : List Oper} (hl : l.toArray = ops) (hok : okL n γ l = true) (hB : chainB ops = true) (hS : ∀ s G, Φ s G → ∀ j, S j = true → hget G j = hget H j) {val : Nat → Value} {fr : Nat → Fm} {st : Nat → Nat} (hf0 : fr 0 = α) (hst0 : st 0 = 0)
    (hstep : ∀ i o, l[i]? = some o → StepK P nro n γ ops S Φ H o (st i) (fr i) (val i) ∧ fr (i + 1) = (fr i).put o.dst (val i) ∧ st (i + 1) = if chainF o.op = true then st i + 1 else st i)
    (hK : ∀ G, Φ (st l.length) G → Q .normal (fr l.length) G) {w0 : World} {m0 : List Ent} : ∀ (f : Nat) (listed : Array Bool) (a : Act) (w : World) (m : List Ent) (G : AH) (α' : Fm) (s : Nat),
    unl listed ops.size = f → listed.size = ops.size → Closed ops listed → KInv P nro n base γ ops Φ m0 w0 α val listed a w m G α' s → wpAny P .any ops (Con nro n γ m0 base w0 Q) f listed a w := by
  have hN : ops.size = l.length := by rw [← hl]; simp
  have hlo : ∀ (i : Nat) (o : Oper), ops[i]? = some o → l[i]? = some o := fun i o h => by subst hl; rw [List.getElem?_toArray] at h; exact h
  have hB1 : ∀ (i : Nat) (o : Oper), ops[i]? = some o → (∀ e ∈ o.after, Region.binds .any e = true → e.on < i) ∧ (∀ j t, j ≠ i → dstO ops j = some t → dstO ops i ≠ some t ∧ (t ∈ o.looksAt ops → (j < i ∧ Region.waitsFor .any ops i j = true) ∨ (i < j ∧ Region.waitsFor .any ops j i = true))) ∧ (chainF o.op = true → ∀ j, j < i → isCallAt ops j = true → waitsT ops ops.size i j = true) := by
    intro i o ho
    have hi : i < ops.size := (Array.getElem?_eq_some_iff.1 ho).1
    unfold chainB at hB
    have h1 := List.all_eq_true.1 hB i (by simpa using hi)
    rw [ho] at h1
    simp only [Bool.and_eq_true] at h1
    obtain ⟨⟨h1, h2⟩, h3⟩ := h1
    refine ⟨fun e he hb => ?_, fun j t hj hd => ?_, fun hc j hj hcj => ?_⟩
    · have := (Array.all_eq_true_iff_forall_mem.1 h1) e he
      simpa [hb] using this
    · have hjl : j < ops.size := by
        unfold dstO at hd
        cases hq : ops[j]? with
        | none => rw [hq] at hd; cases hd
        | some _ => exact (Array.getElem?_eq_some_iff.1 hq).1
      have := List.all_eq_true.1 h2 j (by simpa using hjl)
      rw [hd] at this
      simp only [Bool.or_eq_true, decide_eq_true_eq, Bool.and_eq_true, Bool.not_eq_true'] at this
      rcases this with h | ⟨h4, h5⟩
      · exact absurd h hj
      · refine ⟨h4, fun ht => ?_⟩
        rcases h5 with (h5 | h5) | h5
        · have : (o.looksAt ops).contains t = true := by simpa using ht
          rw [this] at h5; cases h5
        · exact .inl h5
        · exact .inr h5
    · rw [hc] at h3
      simp only [Bool.not_true, Bool.false_or] at h3
      have := List.all_eq_true.1 h3 j (by simpa using hj)
      simpa [hcj] using this
  have huniq : ∀ i j t, i < ops.size → dstO ops i = some t → dstO ops j = some t → i = j := by
    intro i j t hi h1 h2
    rcases Classical.em (j = i) with e | e
    · exact e.symm
    · exact absurd h1 ((hB1 i _ (Array.getElem?_eq_getElem hi)).2.1 j t e h2).1
  have dlt : ∀ {j t}, dstO ops j = some t → j < ops.size := fun {j t} hd => by
    unfold dstO at hd
    cases hq : ops[j]? with
    | none => rw [hq] at hd; cases hd
    | some _ => exact (Array.getElem?_eq_some_iff.1 hq).1
  have hcall : ∀ (i : Nat) (o : Oper), ops[i]? = some o → isCallAt ops i = chainF o.op := fun i o ho => by simp [isCallAt, ho]
  have hst : ∀ i, i ≤ ops.size → st i = cntK ops i := by
    intro i
    induction i with
    | zero => intro _; rw [hst0]; rfl
    | succ i ih =>
      intro hi
      have ho := Array.getElem?_eq_getElem (show i < ops.size by omega)
      rw [(hstep i _ (hlo i _ ho)).2.2, cntK, hcall i _ ho, ih (by omega)]
  have hfr : ∀ i, i ≤ ops.size → ∀ t, (∀ j, j < i → dstO ops j = some t → fr i t = val j) ∧ ((∀ j, j < i → dstO ops j ≠ some t) → fr i t = α t) := by
    intro i
    induction i with
    | zero => intro _ t; exact ⟨fun j hj => by omega, fun _ => by rw [hf0]⟩
    | succ i ih =>
      intro hi t
      have ho := Array.getElem?_eq_getElem (show i < ops.size by omega)
      have hd : dstO ops i = (ops[i]'(by omega)).dst := by simp [dstO, ho]
      rw [(hstep i _ (hlo i _ ho)).2.1, ← hd]
      obtain ⟨h1, h2⟩ := ih (by omega) t
      refine ⟨fun j hj hdj => ?_, fun hno => ?_⟩
      · by_cases e : j = i
        · subst e; rw [hdj]; simp [Fm.put]
        · have hne : dstO ops i ≠ some t := fun h => e (huniq j i t (dlt hdj) hdj h)
          have : (fr i).put (dstO ops i) (val i) t = fr i t := by
            cases hq : dstO ops i with
            | none => rfl
            | some d => rw [hq] at hne; simp only [Fm.put]; rw [if_neg (fun e => hne (by rw [e]))]
          rw [this]
          exact h1 j (by omega) hdj
      · have hne := hno i (by omega)
        have : (fr i).put (dstO ops i) (val i) t = fr i t := by
          cases hq : dstO ops i with
          | none => rfl
          | some d => rw [hq] at hne; simp only [Fm.put]; rw [if_neg (fun e => hne (by rw [e]))]
        rw [this]
        exact h2 fun j hj => hno j (by omega)
  intro f
  induction f with
  | zero =>
    intro listed a w m G α' s hu hsz hcl hI
    have hall := unl_zero hu
    have hready : Region.ready .any ops listed = [] := by
      rw [List.eq_nil_iff_forall_not_mem]
      intro i hi
      obtain ⟨hun, o, ho, _⟩ := mem_ready.1 hi
      rw [hall i (Array.getElem?_eq_some_iff.1 ho).1] at hun
      cases hun
    have hall' : ∀ i, i < ops.size → listed.getD i false = true := fun i hi => by rw [← getD_tf (by omega)]; exact hall i hi
    have hs : s = st l.length := by
      rw [← hN, hst _ (Nat.le_refl _)]
      have h1 := hI.sle
      rcases Nat.eq_zero_or_pos (cntK ops ops.size) with h0 | h0
      · omega
      · obtain ⟨j, hj, hcj, hcc⟩ := cntK_prev h0
        have := (hI.stage j hcj).1 (hall' j hj)
        omega
    have hα : ∀ t, α' t = fr l.length t := by
      intro t
      rw [← hN]
      obtain ⟨h1, h2⟩ := hfr ops.size (Nat.le_refl _) t
      by_cases h : ∃ j, j < ops.size ∧ dstO ops j = some t
      · obtain ⟨j, hj, hd⟩ := h
        rw [hI.got j t (hall' j hj) hd, h1 j hj hd]
      · rw [hI.old t (fun i _ hd => h ⟨i, dlt hd, hd⟩), h2 (fun j hj hd => h ⟨j, hj, hd⟩)]
    have hαe : α' = fr l.length := funext hα
    refine ⟨hready, m, α', G, hI.pre, hI.rel, hI.fr, hI.below, ?_⟩
    rw [hαe]
    exact hK G (hs ▸ hI.phi)
  | succ f ih =>
    intro listed a w m G α' s hu hsz hcl hI
    refine ⟨fun h0 => ?_, fun i hi => ?_⟩
    · exfalso
      obtain ⟨i, hi, hmin⟩ := least (p := fun i => i < ops.size ∧ listed.getD i true = false) (by
        refine Classical.byContradiction fun hno => ?_
        have : ∀ k, k ≤ ops.size → unl listed k = 0 := by
          intro k
          induction k with
          | zero => intro _; rfl
          | succ k ih =>
            intro hk
            rw [unl, ih (by omega)]
            cases hq : listed.getD k true with
            | true => simp
            | false => exact absurd ⟨k, by omega, hq⟩ hno
        have := this ops.size (Nat.le_refl _)
        omega)
      have ho := Array.getElem?_eq_getElem hi.1
      have : i ∈ Region.ready .any ops listed := mem_ready.2 ⟨hi.2, _, ho, fun e he hb => by
        have h1 := (hB1 i _ ho).1 e he hb
        have h2 := hmin e.on h1
        rw [← getD_tf (by omega)]
        cases hq : listed.getD e.on true with
        | true => rfl
        | false => exact absurd ⟨by omega, hq⟩ h2⟩
      rw [h0] at this
      cases this
    · obtain ⟨hun, o, ho, hall⟩ := mem_ready.1 hi
      have hil : i < ops.size := (Array.getElem?_eq_some_iff.1 ho).1
      have hunf : listed.getD i false = false := by rw [← getD_tf (by omega)]; exact hun
      obtain ⟨hb1, hb2, hb3⟩ := hB1 i o ho
      have hli := hlo i o ho
      obtain ⟨hst1, _, _⟩ := hstep i o hli
      have hd : dstO ops i = o.dst := by simp [dstO, ho]
      have hmemo := List.mem_of_getElem? hli
      have hoko : o.op.operands.all (okOpd n γ) = true := List.all_eq_true.1 hok o hmemo
      have hlook : ∀ t, t ∈ o.looksAt ops → α' t = fr i t := by
        intro t ht
        obtain ⟨h1, h2⟩ := hfr i (by omega) t
        by_cases hex : ∃ j, dstO ops j = some t
        · obtain ⟨j, hdj⟩ := hex
          by_cases hji : j = i
          · subst hji
            rw [hI.old t (fun i' hl' hd' => ?_), h2 (fun j' hj' hd' => ?_)]
            · have := huniq _ _ t (dlt hd') hd' hdj
              omega
            · have := huniq _ _ t (dlt hd') hd' hdj
              subst this
              rw [hunf] at hl'; cases hl'
          · rcases (hb2 j t hji hdj).2 ht with ⟨hlt, hw⟩ | ⟨hlt, hw⟩
            · obtain ⟨oj, hoj, e, he, hbe, hon⟩ := Region.waitsFor_spec hw
              rw [ho] at hoj
              cases hoj
              have hlj : listed.getD j false = true := by rw [← hon]; exact hall e he hbe
              rw [hI.got j t hlj hdj, h1 j hlt hdj]
            · have hlj : listed.getD j false = false := by
                cases hq : listed.getD j false with
                | false => rfl
                | true =>
                  obtain ⟨oj, hoj, e, he, hbe, hon⟩ := Region.waitsFor_spec hw
                  have hjs : j < listed.size := getD_lt hq
                  have := hcl j oj hoj (by rw [getD_tf hjs]; exact hq) e he hbe
                  rw [hon, hunf] at this; cases this
              rw [hI.old t (fun i' hl' hd' => ?_), h2 (fun j' hj' hd' => ?_)]
              · have := huniq _ _ t (dlt hd') hd' hdj
                omega
              · have := huniq _ _ t (dlt hd') hd' hdj
                subst this
                rw [hlj] at hl'; cases hl'
        · rw [hI.old t (fun i' _ hd' => hex ⟨i', hd'⟩), h2 (fun j' _ hd' => hex ⟨j', hd'⟩)]
      have hmem : ∀ t, Operand.tmp t ∈ o.op.operands → t ∈ o.looksAt ops := fun t ht => List.mem_append_left _ (List.mem_filterMap.2 ⟨.tmp t, by simpa using ht, rfl⟩)
      have hg : ∀ d ∈ guardT ops o, d < n → V m (fr i d) (a.tmps.getD d undef) := fun d hdm hn => by
        rw [← hlook d (guard_looks hdm)]; exact hI.fr.val d hn
      have hev : ∀ x ∈ o.op.operands, V m ((fr i).eval γ x) (a.eval x) := fun x hx => eval_ev hI.rel (by
          obtain ⟨q, hq, rfl⟩ := Array.mem_iff_getElem.1 hx
          exact (Array.all_eq_true.1 hoko) q hq) fun t ht htn => by
        subst ht
        rw [← hlook t (hmem t hx)]; exact hI.fr.val t htn
      have hcl' := hcl.put ho hall
      have hu' : unl (listed.setIfInBounds i true) ops.size = f := by
        have := unl_set (listed := listed) (by omega) hun hil
        omega
      have lget : ∀ x, (listed.setIfInBounds i true).getD x false = true → x = i ∨ listed.getD x false = true := by
        intro x hx
        by_cases e : i = x
        · exact .inl e.symm
        · rw [getD_set_ne false e] at hx; exact .inr hx
      have lself : (listed.setIfInBounds i true).getD i false = true := getD_set_self (by omega)
      have lmono : ∀ x, listed.getD x false = true → (listed.setIfInBounds i true).getD x false = true := fun x hx => getD_set_true hx
      have hstage : ∀ s', (chainF o.op = true → s' = cntK ops i + 1) → (chainF o.op = false → s' = s) → (chainF o.op = true → s = cntK ops i) →
          ∀ j, isCallAt ops j = true → ((listed.setIfInBounds i true).getD j false = true ↔ cntK ops j < s') := by
        intro s' h1 h2 h3 j hj
        have hjl : j < ops.size := by
          unfold isCallAt at hj
          cases hq : ops[j]? with
          | none => rw [hq] at hj; cases hj
          | some _ => exact (Array.getElem?_eq_some_iff.1 hq).1
        cases hc : chainF o.op with
        | false =>
          rw [h2 hc]
          have hne : i ≠ j := fun e => by subst e; rw [hcall i o ho, hc] at hj; cases hj
          rw [getD_set_ne false hne]
          exact hI.stage j hj
        | true =>
          rw [h1 hc]
          by_cases e : i = j
          · subst e
            exact ⟨fun _ => by omega, fun _ => lself⟩
          · rw [getD_set_ne false e, hI.stage j hj, h3 hc]
            have hci : isCallAt ops i = true := by rw [hcall i o ho, hc]
            constructor
            · intro h; omega
            · intro h
              rcases Nat.lt_or_gt_of_ne e with hij | hij
              · have := cntK_lt hij hci; omega
              · exact cntK_lt hij hj
      have hseq : chainF o.op = true → s = cntK ops i := by
        intro hc
        have hci : isCallAt ops i = true := by rw [hcall i o ho, hc]
        have h1 : ¬ cntK ops i < s := fun h => by
          have := (hI.stage i hci).2 h
          rw [hunf] at this; cases this
        rcases Nat.eq_zero_or_pos (cntK ops i) with h0 | h0
        · omega
        · obtain ⟨j, hj, hcj, hcc⟩ := cntK_prev h0
          have hwt := hb3 hc j hj hcj
          have hlj : listed.getD j false = true := by
            cases hq : listed.getD j true with
            | true => rw [← getD_tf (by omega)]; exact hq
            | false =>
              obtain ⟨o', ho', e, he, hbe, hon⟩ := waitsT_spec hcl hq _ _ hwt
              rw [ho] at ho'
              cases ho'
              rw [hall e he hbe] at hon; cases hon
          have := (hI.stage j hcj).1 hlj
          omega
      have fin : ∀ (v' : Value) (w' : World) (m' : List Ent) (G' : AH) (s' : Nat), m <+: m' → Rel nro base γ m' G' w' → V m' (val i) v' → Below base w w' → Φ s' G' → (chainF o.op = true → s' = cntK ops i + 1) → (chainF o.op = false → s' = s) →
          KInv P nro n base γ ops Φ m0 w0 α val (listed.setIfInBounds i true) (a.put o.dst v') w' m' G' (α'.put o.dst (val i)) s' := by
        intro v' w' m' G' s' hm hR hV hb hΦ hs1 hs2
        refine ⟨hI.pre.trans hm, hR, (hI.fr.mono hm).put hV, hI.below.trans hb, hΦ, hstage s' hs1 hs2 hseq, fun j t hlj hdj => ?_, fun t hno => ?_, ?_⟩
        · by_cases e : j = i
          · subst e
            rw [hd] at hdj
            rw [hdj]; simp [Fm.put]
          · have hne : o.dst ≠ some t := fun h => e (huniq j i t (dlt hdj) hdj (hd.trans h))
            have hlj' : listed.getD j false = true := by rcases lget j hlj with h | h; exact absurd h e; exact h
            have : α'.put o.dst (val i) t = α' t := by
              cases hq : o.dst with
              | none => rfl
              | some d => rw [hq] at hne; simp only [Fm.put]; rw [if_neg (fun e => hne (by rw [e]))]
            rw [this]
            exact hI.got j t hlj' hdj
        · have hne : o.dst ≠ some t := by rw [← hd]; exact hno i lself
          have : α'.put o.dst (val i) t = α' t := by
            cases hq : o.dst with
            | none => rfl
            | some d => rw [hq] at hne; simp only [Fm.put]; rw [if_neg (fun e => hne (by rw [e]))]
          rw [this]
          exact hI.old t fun j hj => hno j (lmono j hj)
        · cases hc : chainF o.op with
          | false => rw [hs2 hc]; exact hI.sle
          | true =>
            rw [hs1 hc]
            have := cntK_lt hil (by rw [hcall i o ho, hc])
            omega
      have hsti := hst i (by omega)
      unfold wpOp
      simp only [ho]
      rcases hst1 with ⟨hw, hv, hp⟩ | ⟨hw, hcf, f', args, hca, hcal, hac⟩ | ⟨hw, hcf, hx, hms⟩ | ⟨hw, hcf, hncf, hx⟩
      · rw [wantedA_ev hI.fr.size hg hw]
        simp only [Bool.false_eq_true, if_false]
        cases hc : chainF o.op with
        | false => exact ih _ _ _ _ _ _ _ hu' (by simpa using hsz) hcl' (fin undef w m G s List.prefix_rfl hI.rel (by rw [hv]; exact plainV_mk plainV_undef) (.refl _ _) hI.phi (fun h => by rw [hc] at h; cases h) (fun _ => rfl))
        | true =>
          have hss := hseq hc
          refine ih _ _ _ _ _ _ _ hu' (by simpa using hsz) hcl' (fin undef w m G (s + 1) List.prefix_rfl hI.rel (by rw [hv]; exact plainV_mk plainV_undef) (.refl _ _) ?_ (fun _ => by omega) (fun h => by rw [hc] at h; cases h))
          have := hp hc G (by rw [hsti, ← hss]; exact hI.phi)
          rwa [hsti, ← hss] at this
      · rw [wantedA_ev hI.fr.size hg hw]
        simp only [if_true]
        refine .inl ?_
        have hcf2 : chainF o.op = true := by simp [chainF, hcf]
        have hss := hseq hcf2
        obtain ⟨args', hsz', hargs, run1, run2⟩ := calleeH_ev (P := P) (w := w) hev hca
        unfold Oper.wp
        have hphi : Φ (st i) G := by rw [hsti, ← hss]; exact hI.phi
        rcases hac G hphi m base w args' hI.rel hsz' hargs with ⟨hbd, hac'⟩ | ⟨v0, hrun, m', v, v', H', he, hm, hv, hR', hb, hx, hx2⟩
        · rw [run1 hcal hbd, Oper.upon_enter]
          refine hac'.mono ?_
          rintro e w' ⟨m', v, v', H', rfl, hm, hv, hR', hb, hx, hx2⟩
          subst hx
          exact ih _ _ _ _ _ _ _ hu' (by simpa using hsz) hcl' (fin v' w' m' H' (st i + 1) hm hR' hv hb hx2 (fun _ => by omega) (fun h => by rw [hcf2] at h; cases h))
        · cases he
          subst hx
          rw [run2 _ hrun, Oper.upon_value]
          exact ih _ _ _ _ _ _ _ hu' (by simpa using hsz) hcl' (fin v0 w m' H' (st i + 1) hm hR' hv hb hx2 (fun _ => by omega) (fun h => by rw [hcf2] at h; cases h))
      · rw [wantedA_ev hI.fr.size hg hw]
        simp only [if_true]
        refine .inl ?_
        rw [← xread_same hms (hS s G hI.phi)] at hx
        obtain ⟨v', h1, h2⟩ := xread_ev hI.rel hev hx
        unfold Oper.wp
        rw [h2 w (.refl _ _)]
        exact ih _ _ _ _ _ _ _ hu' (by simpa using hsz) hcl' (fin v' w m G s List.prefix_rfl hI.rel h1 (.refl _ _) hI.phi (fun h => by rw [hcf] at h; cases h) (fun _ => rfl))
      · rw [wantedA_ev hI.fr.size hg hw]
        simp only [if_true]
        refine .inl ?_
        have hss := hseq hcf
        have hphi : Φ (st i) G := by rw [hsti, ← hss]; exact hI.phi
        obtain ⟨G', hxe, hpe⟩ := hx G hphi
        obtain ⟨m', x, w', v', h1, h2, h3, h4, h5, h6⟩ := xeff_ev hI.rel hev hxe
        have hnext := ih _ (a.put o.dst v') w' m' G' (α'.put o.dst (val i)) (st i + 1) hu' (by simpa using hsz) hcl' (fin v' w' m' G' (st i + 1) h3 h5 h4 h6 hpe (fun _ => by omega) (fun h => by rw [hcf] at h; cases h))
        unfold Oper.wp
        rw [h1]
        rcases h2 with rfl | ⟨rfl, rfl⟩
        · exact hnext
        · exact hnext
theorem aw_chain {id : Nat} {l : List Oper} (S : Nat → Bool) (Φ : Nat → AH → Prop) (hm : P.follows .mixedOrders = true) (hB : chainB l.toArray = true) (hok : okL n γ l = true) (hS : ∀ s G, Φ s G → ∀ j, S j = true → hget G j = hget H j) (h0 : Φ 0 H)
    (h : ∀ K : Fm → AH → Prop, (∀ α' H', Q .normal α' H' → K α' H') → CL P nro n γ l.toArray S Φ H K l 0 α) : AW P nro n γ (.region id l.toArray true) Q α H := by
  intro m base w a hR hF
  refine wp_region_any hm ?_
  obtain ⟨val, fr, st, hf0, hs0, hstep, hK⟩ := CL.unroll l 0 0 α (fun i o ho => by simpa using ho) (h (Q .normal) fun _ _ h => h)
  have := chain_run (P := P) (Q := Q) (S := S) (ops := l.toArray) (n := n) (base := base) rfl hok hB hS hf0 hs0 hstep hK (w0 := w) (m0 := m) l.length (Array.replicate l.length false) a { w with drawn := w.drawn + 1 } m H α 0
    (by simpa using unl_all l.length l.length (Nat.le_refl _)) (by simp) (fun k o hk hl => by simp [show k < l.length by have := (Array.getElem?_eq_some_iff.1 hk).1; simpa using this] at hl)
    ⟨List.prefix_rfl, hR.drewN 1, hF, Below.drew (.refl base w), h0, fun i hi => by rw [rep_getD]; simp, fun i t hl => (by rw [rep_getD] at hl; cases hl), fun t _ => rfl, Nat.zero_le _⟩
  simpa using this
end
end
section
section
variable {P : Program} {nro n base base' : Nat} {γ : Nat → Option Nat} {m m' : List Ent} {H H' : AH} {w w' : World} {Q : Value → AH → Prop}
theorem Rel.thaw (h1 : Rel nro base γ m H w') (h2 : Rel H.length base' γ m' H' w') (hm : m <+: m') (hl : ∀ j, j < H.length → hget H' j = hget H j) (hle : H.length ≤ H'.length) (hb : ∀ (i : Nat) (e : Ent), m[i]? = some e → e.b < base') (hbb : base ≤ base') : Rel nro base γ m' H' w' := by
 have hml := h1.len
 have old : ∀ (i : Nat) (e : Ent), i < H.length → m'[i]? = some e → m[i]? = some e := fun i e hi he => by
  obtain ⟨r, rfl⟩ := hm
  rwa [List.getElem?_append_left (by omega)] at he
 have oldH : ∀ (i : Nat) (k : Blk), i < H.length → H'[i]? = some (some k) → H[i]? = some (some k) := fun i k hi hk => by
  have h3 := hl i hi
  unfold hget at h3
  rw [hk, List.getElem?_eq_getElem hi] at h3
  simp at h3
  rw [List.getElem?_eq_getElem hi, ← h3]
 refine ⟨h2.len, Nat.le_trans h1.le hle, h1.base_le, h2.inb, fun i e hi he => h1.ro i e hi (old i e (Nat.lt_of_lt_of_le hi h1.le) he), fun i e hi he => ?_, h2.maps, fun i k e hk hn he => ?_, fun i j ki kj ei ej hi hj hij hki hkj hei hej => ?_, h2.glob⟩
 ·rcases Nat.lt_or_ge i H.length with h | h
  ·exact h1.own i e hi (old i e h he)
  ·have := h2.own i e h he
   exact ⟨by omega, this.2⟩
 ·rcases Nat.lt_or_ge i H.length with h | h
  ·obtain ⟨cs, fr, a, b, c, d, f⟩ := h1.cells i k e (oldH i k h hk) hn (old i e h he)
   refine ⟨cs, fr, a, b, c, d, fun j x hx => ?_⟩
   obtain ⟨y, hy, hv⟩ := f j x hx
   exact ⟨y, hy, hv.mono hm⟩
  ·obtain ⟨cs, fr, a, b, c, d, f⟩ := h2.cells i k e hk hn he
   exact ⟨cs, fr, a, fun _ => b h, c, fun _ => d h, f⟩
 ·rcases Nat.lt_or_ge i H.length with h | h
  ·have e1 := old i ei h hei
   rcases Nat.lt_or_ge j H.length with h' | h'
   ·exact h1.apart i j ki kj ei ej hi hj hij (oldH i ki h hki) (oldH j kj h' hkj) e1 (old j ej h' hej)
   ·have := hb i ei e1
    have := (h2.own j ej h' hej).1
    omega
  ·rcases Nat.lt_or_ge j H.length with h' | h'
   ·have := hb j ej (old j ej h' hej)
    have := (h2.own i ei h hei).1
    omega
   ·exact h2.apart i j ki kj ei ej h h' hij hki hkj hei hej
theorem AC.thaw {f : FuncId} {args : Array Value} (h : AC P H.length γ f args H Q) (hq : ∀ v H', Q v H' → H.length ≤ H'.length ∧ ∀ j, j < H.length → hget H' j = hget H j) : AC P nro γ f args H Q := by
 intro m base w args' hR hsz hva
 refine (h m w.heap.size w args' hR.freeze hsz hva).mono ?_
 rintro e w' ⟨m', v1, v', H', rfl, hm, hv', hR', hb, hQ⟩
 obtain ⟨h1, h2⟩ := hq _ _ hQ
 exact ⟨m', v1, v', H', rfl, hm, hv', (hR.below hb).thaw hR' hm h2 h1 hR.inb hR.base_le, hb.mono hR.base_le, hQ⟩
end
end
end Go.Proofs.Ytdeccbjdhcifiaa
