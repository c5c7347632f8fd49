/-
  A region whose order is drawn: in any order operations that read, new rows of plain cells, calls that answer plain values; then the rest, one behind the other: what the plan is, and what it says. Over any program.
-/
import Derived.Test.YtjfhdckcjkgjnaaDoorXn
namespace Go.Proofs.YtjfhdckcjkgjnaaDoor
open Go Go.RowKit
set_option linter.unusedVariables false
set_option linter.unusedSimpArgs false

def allocOp : Op → Bool
  | .alloc _ | .box .. | .buildSlice .. | .makeSlice .. => true
  | _ => false
def isCallF : Op → Bool
  | .call ⟨.value (.func _), _, _⟩ => true
  | _ => false
def reloc (i : Nat) : Value → Value
  | .pointer (some ⟨_, o, s⟩) => .pointer (some ⟨i, o, s⟩)
  | .slice (some ⟨_, o, s⟩) l c => .slice (some ⟨i, o, s⟩) l c
  | x => x
/-- Of the new rows that one is there which a value names. -/
def Shown (h : Nat) (N : List Blk) (L : AH) : Value → Prop
  | .pointer (some ⟨i, _, none⟩) => ∀ j b, i = h + j → N[j]? = some b → hget L j = some b
  | .slice (some ⟨i, _, none⟩) _ _ => ∀ j b, i = h + j → N[j]? = some b → hget L j = some b
  | _ => True
/-- Is this the temporary of a call that answers a new row? -/
def isNd (nd : List Tmp) : Option Tmp → Bool
  | some t => nd.contains t
  | none => false
def newOp (nd : List Tmp) (o : Oper) : Bool := allocOp o.op || (isNd nd o.dst && isCallF o.op)
def isSl : Value → Bool
  | .slice (some ⟨_, 0, none⟩) l c => decide (l = c)
  | _ => false
/-- A slice that shows the whole of a new row. -/
def Fresh (lo : Nat) (b : Blk) (len : Nat) (v : Value) (H : AH) : Prop := ∃ j, lo ≤ j ∧ v = .slice (some ⟨j, 0, none⟩) len len ∧ hget H j = some b
/-- Operations that may look at a new row too: what they yield is plain then. -/
def isLoadF : Op → Bool
  | .load .. => true
  | _ => false
def lookF : Op → Bool
  | .convert .. => true
  | .load .. => true
  | .call ⟨.builtin .len, _, _⟩ => true
  | _ => false
inductive StP where
  | lookc (s t : TypeId) (x : Value)
  | lookl (t : TypeId) (x : Value)
  | val (v : Value)
  | new (v : Value) (b : Option Blk)
  | call (f : FuncId) (args : Array Value)
  | no
def stepPN (r : Option (Value × AH)) (H : AH) : StP := match r with | some (v, H') => .new v (hget H' H.length) | none => .no
def stepPA (P : Program) (nro : Nat) (γ : Nat → Option Nat) (b : Bool) (op : Op) (α : Fm) (H : AH) : StP := match b with | true => stepPN (xeff P nro γ op α H) H | false => (match op with | .convert s d x => .lookc s d (α.eval γ x) | .load t x => .lookl t (α.eval γ x) | _ => .no)
def stepPX (P : Program) (nro : Nat) (γ : Nat → Option Nat) (r : Option Value) (op : Op) (α : Fm) (H : AH) : StP := match r with | some v => .val v | none => stepPA P nro γ (allocOp op) op α H
def stepPC (P : Program) (nro : Nat) (γ : Nat → Option Nat) (c : Option (FuncId × Array Value)) (op : Op) (α : Fm) (H : AH) : StP :=
  match c with
  | some (f, args) => .call f args
  | none => stepPX P nro γ (xread P γ op α H) op α H
def stepP (P : Program) (nro : Nat) (γ : Nat → Option Nat) (g : Option Bool) (op : Op) (α : Fm) (H : AH) : StP :=
  match g with
  | none => .no
  | some false => .val undef
  | some true => stepPC P nro γ (calleeOf γ α op) op α H
def PL (P : Program) (nro n : Nat) (γ : Nat → Option Nat) (nd : List Tmp) (ops : Array Oper) (Q : Fm → List Blk → Prop) (H : AH) : List Oper → Fm → List Blk → Prop
  | [], α, N => Q α N
  | o :: rest, α, N =>
    match stepP P nro γ (wantedA ops n α o) o.op α H with
    | .val v => PL P nro n γ nd ops Q H rest (α.put o.dst v) N
    | .new v (some b) => b.cells.all plain1 = true ∧ PL P nro n γ nd ops Q H rest (α.put o.dst (reloc (H.length + N.length) v)) (N ++ [b])
    | .new _ none => False
    | .call f args => callable P f = true ∧ ((∃ v, plainV v = true ∧ (∀ L : AH, (∀ x ∈ args.toList, Shown H.length N L x) → AC P (H ++ L).length γ f args (H ++ L) (fun v' _ => v' = v)) ∧ PL P nro n γ nd ops Q H rest (α.put o.dst v) N) ∨
      (isNd nd o.dst = true ∧ ∃ b len, b.cells.all plain1 = true ∧ (∀ L : AH, (∀ x ∈ args.toList, Shown H.length N L x) → AC P (H ++ L).length γ f args (H ++ L) (Fresh (H ++ L).length b len)) ∧ PL P nro n γ nd ops Q H rest (α.put o.dst (.slice (some ⟨H.length + N.length, 0, none⟩) len len)) (N ++ [b])) ∨
      (isNd nd o.dst = true ∧ ∃ x, x ∈ args.toList ∧ isSl x = true ∧ (∀ L : AH, (∀ x ∈ args.toList, Shown H.length N L x) → AC P (H ++ L).length γ f args (H ++ L) (fun v' _ => v' = x)) ∧ PL P nro n γ nd ops Q H rest (α.put o.dst x) N))
    | .lookc s t x => ∃ v, plainV v = true ∧ (∀ L : AH, Shown H.length N L x → xconv P s t x (H ++ L) = some v) ∧ PL P nro n γ nd ops Q H rest (α.put o.dst v) N
    | .lookl t x => ∃ v, plainV v = true ∧ (∀ L : AH, Shown H.length N L x → xload P t x (H ++ L) = some v) ∧ PL P nro n γ nd ops Q H rest (α.put o.dst v) N
    | .no => False
def PLc (P : Program) (nro n : Nat) (γ : Nat → Option Nat) (nd : List Tmp) (ops : Array Oper) (Q : Fm → List Blk → Prop) (H : AH) (r : StP) (d : Option Tmp) (rest : List Oper) (α : Fm) (N : List Blk) : Prop :=
    match r with
    | .val v => PL P nro n γ nd ops Q H rest (α.put d v) N
    | .new v (some b) => b.cells.all plain1 = true ∧ PL P nro n γ nd ops Q H rest (α.put d (reloc (H.length + N.length) v)) (N ++ [b])
    | .new _ none => False
    | .call f args => callable P f = true ∧ ((∃ v, plainV v = true ∧ (∀ L : AH, (∀ x ∈ args.toList, Shown H.length N L x) → AC P (H ++ L).length γ f args (H ++ L) (fun v' _ => v' = v)) ∧ PL P nro n γ nd ops Q H rest (α.put d v) N) ∨
      (isNd nd d = true ∧ ∃ b len, b.cells.all plain1 = true ∧ (∀ L : AH, (∀ x ∈ args.toList, Shown H.length N L x) → AC P (H ++ L).length γ f args (H ++ L) (Fresh (H ++ L).length b len)) ∧ PL P nro n γ nd ops Q H rest (α.put d (.slice (some ⟨H.length + N.length, 0, none⟩) len len)) (N ++ [b])) ∨
      (isNd nd d = true ∧ ∃ x, x ∈ args.toList ∧ isSl x = true ∧ (∀ L : AH, (∀ x ∈ args.toList, Shown H.length N L x) → AC P (H ++ L).length γ f args (H ++ L) (fun v' _ => v' = x)) ∧ PL P nro n γ nd ops Q H rest (α.put d x) N))
    | .lookc s t x => ∃ v, plainV v = true ∧ (∀ L : AH, Shown H.length N L x → xconv P s t x (H ++ L) = some v) ∧ PL P nro n γ nd ops Q H rest (α.put d v) N
    | .lookl t x => ∃ v, plainV v = true ∧ (∀ L : AH, Shown H.length N L x → xload P t x (H ++ L) = some v) ∧ PL P nro n γ nd ops Q H rest (α.put d v) N
    | .no => False
section
variable {P : Program} {nro n base : Nat} {γ : Nat → Option Nat} {m : List Ent} {H : AH} {α : Fm} {a : Act} {w : World} {ops : Array Oper} {K : Fm → List Blk → Prop} {N : List Blk} {nd : List Tmp}
theorem stepP_t (op : Op) : stepP P nro γ (some true) op α H = stepPC P nro γ (calleeOf γ α op) op α H := rfl
theorem stepP_f (op : Op) : stepP P nro γ (some false) op α H = .val undef := rfl
theorem stepPC_n (op : Op) : stepPC P nro γ none op α H = stepPX P nro γ (xread P γ op α H) op α H := rfl
theorem stepPC_s (f : FuncId) (args : Array Value) (op : Op) : stepPC P nro γ (some (f, args)) op α H = .call f args := rfl
theorem stepPX_s (v : Value) (op : Op) : stepPX P nro γ (some v) op α H = .val v := rfl
theorem stepPX_n (op : Op) : stepPX P nro γ none op α H = stepPA P nro γ (allocOp op) op α H := rfl
theorem stepPA_t (op : Op) : stepPA P nro γ true op α H = stepPN (xeff P nro γ op α H) H := rfl
theorem stepPA_c (s d : TypeId) (x : Operand) : stepPA P nro γ false (.convert s d x) α H = .lookc s d (α.eval γ x) := rfl
theorem stepPA_l (t : TypeId) (x : Operand) : stepPA P nro γ false (.load t x) α H = .lookl t (α.eval γ x) := rfl
theorem stepPN_s (v : Value) (H' : AH) : stepPN (some (v, H')) H = .new v (hget H' H.length) := rfl
theorem PL_nil : PL P nro n γ nd ops K H [] α N = K α N := rfl
theorem PL_cons (o : Oper) (rest : List Oper) : PL P nro n γ nd ops K H (o :: rest) α N = PLc P nro n γ nd ops K H (stepP P nro γ (wantedA ops n α o) o.op α H) o.dst rest α N := by
  unfold PLc
  rw [PL]
theorem PLc_val (v : Value) (d : Option Tmp) (rest : List Oper) : PLc P nro n γ nd ops K H (.val v) d rest α N = PL P nro n γ nd ops K H rest (α.put d v) N := rfl
theorem PLc_new (v : Value) (b : Blk) (d : Option Tmp) (rest : List Oper) : PLc P nro n γ nd ops K H (.new v (some b)) d rest α N = (b.cells.all plain1 = true ∧ PL P nro n γ nd ops K H rest (α.put d (reloc (H.length + N.length) v)) (N ++ [b])) := rfl
theorem PLc_call {f : FuncId} {args : Array Value} {d : Option Tmp} {rest : List Oper} {v : Value} (h1 : callable P f = true) (h2 : ∀ L : AH, (∀ x ∈ args.toList, Shown H.length N L x) → AC P (H ++ L).length γ f args (H ++ L) (fun v' _ => v' = v)) (h3 : plainV v = true)
    (h4 : PL P nro n γ nd ops K H rest (α.put d v) N) : PLc P nro n γ nd ops K H (.call f args) d rest α N := ⟨h1, .inl ⟨v, h3, h2, h4⟩⟩
theorem PLc_callN {f : FuncId} {args : Array Value} {d : Option Tmp} {rest : List Oper} (b : Blk) (len : Nat) (h1 : callable P f = true) (hd : isNd nd d = true) (h2 : ∀ L : AH, (∀ x ∈ args.toList, Shown H.length N L x) → AC P (H ++ L).length γ f args (H ++ L) (Fresh (H ++ L).length b len)) (h3 : b.cells.all plain1 = true)
    (h4 : PL P nro n γ nd ops K H rest (α.put d (.slice (some ⟨H.length + N.length, 0, none⟩) len len)) (N ++ [b])) : PLc P nro n γ nd ops K H (.call f args) d rest α N := ⟨h1, .inr (.inl ⟨hd, b, len, h3, h2, h4⟩)⟩
theorem PLc_callE {f : FuncId} {args : Array Value} {d : Option Tmp} {rest : List Oper} (x : Value) (h1 : callable P f = true) (hd : isNd nd d = true) (hx : x ∈ args.toList) (hs : isSl x = true) (h2 : ∀ L : AH, (∀ x ∈ args.toList, Shown H.length N L x) → AC P (H ++ L).length γ f args (H ++ L) (fun v' _ => v' = x))
    (h4 : PL P nro n γ nd ops K H rest (α.put d x) N) : PLc P nro n γ nd ops K H (.call f args) d rest α N := ⟨h1, .inr (.inr ⟨hd, x, hx, hs, h2, h4⟩)⟩
theorem PLc_conv {s t : TypeId} {x : Value} {d : Option Tmp} {rest : List Oper} {v : Value} (h2 : ∀ L : AH, Shown H.length N L x → xconv P s t x (H ++ L) = some v) (h3 : plainV v = true)
    (h4 : PL P nro n γ nd ops K H rest (α.put d v) N) : PLc P nro n γ nd ops K H (.lookc s t x) d rest α N := ⟨v, h3, h2, h4⟩
theorem PLc_load {t : TypeId} {x : Value} {d : Option Tmp} {rest : List Oper} {v : Value} (h2 : ∀ L : AH, Shown H.length N L x → xload P t x (H ++ L) = some v) (h3 : plainV v = true)
    (h4 : PL P nro n γ nd ops K H rest (α.put d v) N) : PLc P nro n γ nd ops K H (.lookl t x) d rest α N := ⟨v, h3, h2, h4⟩
theorem reloc_sl (i j o l c : Nat) (s : Option Nat) : reloc i (.slice (some ⟨j, o, s⟩) l c) = .slice (some ⟨i, o, s⟩) l c := rfl
theorem reloc_ptr (i j o : Nat) (s : Option Nat) : reloc i (.pointer (some ⟨j, o, s⟩)) = .pointer (some ⟨i, o, s⟩) := rfl

/-- One step of the plan. -/
def StepOk (P : Program) (nro n : Nat) (γ : Nat → Option Nat) (nd : List Tmp) (ops : Array Oper) (H : AH) (o : Oper) (β : Fm) (N : List Blk) (v : Value) (nb : Option Blk) : Prop :=
  (wantedA ops n β o = some false ∧ v = undef ∧ nb = none) ∨
  (wantedA ops n β o = some true ∧ isCallF o.op = false ∧ (lookF o.op = false ∨ isLoadF o.op = true) ∧ xread P γ o.op β H = some v ∧ nb = none) ∨
  (wantedA ops n β o = some true ∧ allocOp o.op = true ∧ ∃ v0 H' b, xeff P nro γ o.op β H = some (v0, H') ∧ hget H' H.length = some b ∧ b.cells.all plain1 = true ∧ v = reloc (H.length + N.length) v0 ∧ nb = some b) ∨
  (wantedA ops n β o = some true ∧ isCallF o.op = true ∧ (∃ f args, calleeOf γ β o.op = some (f, args) ∧ callable P f = true ∧ plainV v = true ∧ (∀ L : AH, (∀ x ∈ args.toList, Shown H.length N L x) → AC P (H ++ L).length γ f args (H ++ L) (fun v' _ => v' = v))) ∧ nb = none) ∨
  (wantedA ops n β o = some true ∧ isCallF o.op = true ∧ isNd nd o.dst = true ∧ ∃ f args b len, calleeOf γ β o.op = some (f, args) ∧ callable P f = true ∧ b.cells.all plain1 = true ∧ (∀ L : AH, (∀ x ∈ args.toList, Shown H.length N L x) → AC P (H ++ L).length γ f args (H ++ L) (Fresh (H ++ L).length b len)) ∧ v = .slice (some ⟨H.length + N.length, 0, none⟩) len len ∧ nb = some b) ∨
  (wantedA ops n β o = some true ∧ isCallF o.op = true ∧ isNd nd o.dst = true ∧ ∃ f args, calleeOf γ β o.op = some (f, args) ∧ callable P f = true ∧ v ∈ args.toList ∧ isSl v = true ∧ (∀ L : AH, (∀ x ∈ args.toList, Shown H.length N L x) → AC P (H ++ L).length γ f args (H ++ L) (fun v' _ => v' = v)) ∧ nb = none) ∨
  (wantedA ops n β o = some true ∧ isCallF o.op = false ∧ lookF o.op = true ∧ plainV v = true ∧ (∀ L : AH, (∀ x ∈ o.op.operands, Shown H.length N L (β.eval γ x)) → xread P γ o.op β (H ++ L) = some v) ∧ nb = none)
theorem xconv_mono {s t : TypeId} {x v : Value} (h : xconv P s t x H = some v) (L : AH) : xconv P s t x (H ++ L) = some v ∧ plainV v = true := by
  unfold xconv at h ⊢
  split at h
  · split at h
    · rename_i he _ hk; rw [if_pos hk]; exact ⟨h, by cases h; rfl⟩
    · cases h
  · split at h
    · rename_i he _ hk; rw [if_pos hk]; exact ⟨h, by cases h; rfl⟩
    · cases h
  · refine ⟨h, ?_⟩
    repeat' split at h
    all_goals first | (cases h; done) | (cases h; rfl)
  · rename_i b i off len c hd
    cases hg : hget H i with
    | none => rw [hg] at h; repeat' split at h
              all_goals first | contradiction | (cases h; done)
    | some k =>
      rw [hget_left' hg]
      rw [hg] at h
      refine ⟨h, ?_⟩
      repeat' split at h
      all_goals first | (cases h; done) | (cases h; rfl)
  · cases h
theorem xload_new {t : TypeId} {i o : Nat} {q : Option Nat} {v : Value} (h : xload P t (.pointer (some ⟨i, o, q⟩)) H = some v) : i < H.length := by
  unfold xload at h
  split at h
  · rename_i e
    cases e
    split at h
    · cases h
    · rename_i k hk; exact hget_lt hk
  · cases h
theorem put_ne {α : Fm} {o : Option Tmp} {v : Value} {t : Tmp} (h : o ≠ some t) : α.put o v t = α t := by
  cases o with
  | none => rfl
  | some d =>
    show (if t = d then v else α t) = α t
    rw [if_neg (fun e => h (by rw [e]))]
def dstO (ops : Array Oper) (j : Nat) : Option Tmp := (ops[j]?).bind (·.dst)
def Planned (P : Program) (nro n : Nat) (γ : Nat → Option Nat) (nd : List Tmp) (ops : Array Oper) (H : AH) (val : Nat → Value) (nb : Nat → Option Blk) (Ns : Nat → List Blk) : List Nat → Fm → List Blk → Prop
  | [], _, _ => True
  | i :: hs, α, N => ∃ o, ops[i]? = some o ∧ Ns i = N ∧ StepOk P nro n γ nd ops H o α N (val i) (nb i) ∧ Planned P nro n γ nd ops H val nb Ns hs (α.put o.dst (val i)) (N ++ (nb i).toList)
def endF (ops : Array Oper) (val : Nat → Value) : List Nat → Fm → Fm
  | [], α => α
  | i :: hs, α => endF ops val hs (α.put (dstO ops i) (val i))
def endN (nb : Nat → Option Blk) : List Nat → List Blk → List Blk
  | [], N => N
  | i :: hs, N => endN nb hs (N ++ (nb i).toList)
theorem Planned.congr {val val' : Nat → Value} {nb nb' : Nat → Option Blk} {Ns Ns' : Nat → List Blk} : ∀ (hs : List Nat) (α : Fm) (N : List Blk), (∀ x ∈ hs, val x = val' x ∧ nb x = nb' x ∧ Ns x = Ns' x) →
    Planned P nro n γ nd ops H val' nb' Ns' hs α N → Planned P nro n γ nd ops H val nb Ns hs α N ∧ endF ops val hs α = endF ops val' hs α ∧ endN nb hs N = endN nb' hs N
  | [], α, N, _, _ => ⟨trivial, rfl, rfl⟩
  | i :: hs, α, N, hx, h => by
    obtain ⟨o, h1, h2, h3, h4⟩ := h
    obtain ⟨e1, e2, e3⟩ := hx i (by simp)
    obtain ⟨k1, k2, k3⟩ := Planned.congr hs _ _ (fun x hx' => hx x (by simp [hx'])) h4
    refine ⟨⟨o, h1, e3.trans h2, by rw [e1, e2]; exact h3, by rw [e1, e2]; exact k1⟩, ?_, ?_⟩
    · have hd : dstO ops i = o.dst := by simp [dstO, h1]
      show endF ops val hs (α.put (dstO ops i) (val i)) = endF ops val' hs (α.put (dstO ops i) (val' i))
      rw [hd, e1]; exact k2
    · show endN nb hs (N ++ (nb i).toList) = endN nb' hs (N ++ (nb' i).toList)
      rw [e2]; exact k3
theorem callee_isCall {op : Op} {c : FuncId × Array Value} (h : calleeOf γ α op = some c) : isCallF op = true := by
  unfold calleeOf at h
  split at h
  · rfl
  · cases h
theorem callee_notCall {op : Op} (h : calleeOf γ α op = none) : isCallF op = false := by
  unfold calleeOf at h
  split at h
  · cases h
  · rename_i hne
    unfold isCallF
    split
    · rename_i f args ts; exact absurd rfl (hne f args ts)
    · rfl
theorem PL.step {o : Oper} {rest : List Oper} (h : PL P nro n γ nd ops K H (o :: rest) α N) : ∃ v nb, StepOk P nro n γ nd ops H o α N v nb ∧ PL P nro n γ nd ops K H rest (α.put o.dst v) (N ++ nb.toList) := by
  rw [PL_cons] at h
  cases hw : wantedA ops n α o with
  | none => rw [hw] at h; exact h.elim
  | some b =>
    rw [hw] at h
    cases b with
    | false => exact ⟨undef, none, .inl ⟨hw, rfl, rfl⟩, by rw [stepP_f, PLc_val] at h; simpa using h⟩
    | true =>
      rw [stepP_t] at h
      cases hc : calleeOf γ α o.op with
      | some c =>
        obtain ⟨f, args⟩ := c
        rw [hc, stepPC_s] at h
        obtain ⟨h1, ⟨v, h2, h3, h4⟩ | ⟨hd, b, len, h2, h3, h4⟩ | ⟨hd, x, hx, hs, h3, h4⟩⟩ := h
        · exact ⟨v, none, .inr (.inr (.inr (.inl ⟨hw, callee_isCall hc, ⟨f, args, hc, h1, h2, h3⟩, rfl⟩))), by simpa using h4⟩
        · exact ⟨_, some b, .inr (.inr (.inr (.inr (.inl ⟨hw, callee_isCall hc, hd, f, args, b, len, hc, h1, h2, h3, rfl, rfl⟩)))), h4⟩
        · exact ⟨x, none, .inr (.inr (.inr (.inr (.inr (.inl ⟨hw, callee_isCall hc, hd, f, args, hc, h1, hx, hs, h3, rfl⟩))))), by simpa using h4⟩
      | none =>
        rw [hc, stepPC_n] at h
        cases hx : xread P γ o.op α H with
        | some v =>
          rw [hx, stepPX_s, PLc_val] at h
          refine ⟨v, none, ?_, by simpa using h⟩
          have hcf := callee_notCall hc
          by_cases hl : lookF o.op = false ∨ isLoadF o.op = true
          · exact .inr (.inl ⟨hw, hcf, hl, hx, rfl⟩)
          · have hl' : lookF o.op = true := by
              cases hq : lookF o.op with
              | true => rfl
              | false => exact absurd (.inl hq) hl
            have hp : plainV v = true ∧ ∀ L : AH, xread P γ o.op α (H ++ L) = some v := by
              obtain ⟨dst, op, type, pos, after, guard⟩ := o
              simp only at hl hl' hx ⊢
              unfold lookF at hl'
              split at hl'
              · simp only [xread] at hx ⊢
                exact ⟨(xconv_mono hx []).2, fun L => (xconv_mono hx L).1⟩
              · exact absurd (.inr rfl) hl
              · rename_i args ts
                simp only [xread] at hx ⊢
                split at hx
                · rename_i x t e1 e2 e3
                  refine ⟨?_, fun L => hx⟩
                  unfold xlen at hx
                  repeat' split at hx
                  all_goals first | (cases hx; done) | (cases hx; rfl)
                · exact absurd ‹Callee.builtin Builtin.len = Callee.builtin Builtin.min› (by simp)
                · exact absurd ‹Callee.builtin Builtin.len = Callee.builtin Builtin.max› (by simp)
                · exact absurd ‹Callee.builtin Builtin.len = Callee.builtin Builtin.cap› (by simp)
                · cases hx
              · cases hl'
            exact .inr (.inr (.inr (.inr (.inr (.inr ⟨hw, hcf, hl', hp.1, fun L _ => hp.2 L, rfl⟩)))))
        | none =>
          rw [hx, stepPX_n] at h
          cases ha : allocOp o.op with
          | false =>
            rw [ha] at h
            obtain ⟨dst, op, type, pos, after, guard⟩ := o
            simp only at hc hx ha h hw ⊢
            have key : (∃ s t x, op = .convert s t x) ∨ (∃ t x, op = .load t x) ∨ PLc P nro n γ nd ops K H .no dst rest α N := by
              cases op <;> first | exact .inl ⟨_, _, _, rfl⟩ | exact .inr (.inl ⟨_, _, rfl⟩) | exact .inr (.inr h)
            rcases key with ⟨s, t, x, rfl⟩ | ⟨t, x, rfl⟩ | hno
            · obtain ⟨v, h1, h2, h3⟩ := h
              exact ⟨v, none, .inr (.inr (.inr (.inr (.inr (.inr ⟨hw, rfl, rfl, h1, fun L hs => h2 L (hs x (by simp [Op.operands])), rfl⟩))))), by simpa using h3⟩
            · obtain ⟨v, h1, h2, h3⟩ := h
              exact ⟨v, none, .inr (.inr (.inr (.inr (.inr (.inr ⟨hw, rfl, rfl, h1, fun L hs => h2 L (hs x (by simp [Op.operands])), rfl⟩))))), by simpa using h3⟩
            · exact hno.elim
          | true =>
            rw [ha, stepPA_t] at h
            cases he : xeff P nro γ o.op α H with
            | none => rw [he] at h; exact h.elim
            | some r =>
              obtain ⟨v0, H'⟩ := r
              rw [he, stepPN_s] at h
              cases hb : hget H' H.length with
              | none => rw [hb] at h; exact h.elim
              | some b =>
                rw [hb, PLc_new] at h
                exact ⟨_, some b, .inr (.inr (.inl ⟨hw, ha, v0, H', b, he, hb, h.1, rfl, rfl⟩)), h.2⟩
theorem PL.plan {l : List Oper} (hl : l.toArray = ops) : ∀ (hs : List Nat) (α : Fm) (N : List Blk), hs.Nodup → (∀ i ∈ hs, i < l.length) → PL P nro n γ nd ops K H (sel l hs) α N →
    ∃ val nb Ns, Planned P nro n γ nd ops H val nb Ns hs α N ∧ K (endF ops val hs α) (endN nb hs N)
  | [], α, N, _, _, h => ⟨fun _ => undef, fun _ => none, fun _ => [], trivial, h⟩
  | i :: hs, α, N, hnd, hlt, h => by
    have hi := hlt i (by simp)
    have hli : l[i]? = some l[i] := List.getElem?_eq_getElem hi
    have hoi : ops[i]? = some l[i] := by rw [← hl]; simp
    simp only [sel, hli] at h
    obtain ⟨v, b, h1, h2⟩ := PL.step h
    rw [List.nodup_cons] at hnd
    obtain ⟨val, nb, Ns, h3, h4⟩ := PL.plan hl hs _ _ hnd.2 (fun x hx => hlt x (by simp [hx])) h2
    have hne : ∀ x ∈ hs, x ≠ i := fun x hx e => hnd.1 (e ▸ hx)
    obtain ⟨k1, k2, k3⟩ := Planned.congr (val := fun x => if x = i then v else val x) (nb := fun x => if x = i then b else nb x) (Ns := fun x => if x = i then N else Ns x) hs _ _ (fun x hx => by simp [hne x hx]) h3
    refine ⟨fun x => if x = i then v else val x, fun x => if x = i then b else nb x, fun x => if x = i then N else Ns x, ⟨l[i], hoi, by simp, by simpa using h1, ?_⟩, ?_⟩
    · simpa using k1
    · have hd : dstO ops i = l[i].dst := by simp [dstO, hoi]
      show K (endF ops _ hs (α.put (dstO ops i) _)) (endN _ hs (N ++ _))
      rw [hd]
      simp only [if_true]
      rw [k2, k3]
      exact h4
variable {val : Nat → Value} {nb : Nat → Option Blk} {Ns : Nat → List Blk}
theorem endN_pre : ∀ (hs : List Nat) (N : List Blk), N <+: endN nb hs N
  | [], N => List.prefix_rfl
  | i :: hs, N => (List.prefix_append N _).trans (endN_pre hs _)
theorem Planned.pre : ∀ (hs : List Nat) (α : Fm) (N : List Blk), Planned P nro n γ nd ops H val nb Ns hs α N → ∀ i ∈ hs, N <+: Ns i
  | i0 :: hs, α, N, h, i, hi => by
    obtain ⟨o, h1, h2, h3, h4⟩ := h
    rcases List.mem_cons.1 hi with rfl | hi
    · rw [h2]; exact List.prefix_rfl
    · exact (List.prefix_append N _).trans (Planned.pre hs _ _ h4 i hi)
theorem Planned.at : ∀ (hs : List Nat) (α : Fm) (N : List Blk), hs.Pairwise (· < ·) → Planned P nro n γ nd ops H val nb Ns hs α N → ∀ i ∈ hs, ∃ o β, ops[i]? = some o ∧ StepOk P nro n γ nd ops H o β (Ns i) (val i) (nb i) ∧ Ns i ++ (nb i).toList <+: endN nb hs N ∧
    (∀ t, (∀ j ∈ hs, j < i → dstO ops j ≠ some t) → β t = α t) ∧ (∀ j ∈ hs, j < i → ∀ t, dstO ops j = some t → (∀ j' ∈ hs, j' ≠ j → dstO ops j' ≠ some t) → β t = val j)
  | i0 :: hs, α, N, hp, h, i, hi => by
    obtain ⟨o, h1, h2, h3, h4⟩ := h
    rw [List.pairwise_cons] at hp
    have hd : dstO ops i0 = o.dst := by simp [dstO, h1]
    rcases List.mem_cons.1 hi with rfl | hi
    · refine ⟨o, α, h1, by rw [h2]; exact h3, by rw [h2]; exact endN_pre hs _, fun t _ => rfl, fun j hj hlt => ?_⟩
      rcases List.mem_cons.1 hj with rfl | hj
      · omega
      · have := hp.1 j hj; omega
    · obtain ⟨o', β, k1, k2, k3, k4, k5⟩ := Planned.at hs _ _ hp.2 h4 i hi
      have hlt := hp.1 i hi
      refine ⟨o', β, k1, k2, k3, fun t ht => ?_, fun j hj hji t hjt hot => ?_⟩
      · rw [k4 t fun j hj hji => ht j (by simp [hj]) hji]
        have := ht i0 (by simp) hlt
        rw [hd] at this
        exact put_ne this
      · rcases List.mem_cons.1 hj with rfl | hj
        · rw [k4 t fun j' hj' hlt' => hot j' (by simp [hj']) (by have := hp.1 j' hj'; omega)]
          rw [hd] at hjt
          rw [hjt]
          simp [Fm.put]
        · exact k5 j hj hji t hjt fun j' hj' hne => hot j' (by simp [hj']) hne
theorem Planned.end_at : ∀ (hs : List Nat) (α : Fm) (N : List Blk), hs.Nodup → Planned P nro n γ nd ops H val nb Ns hs α N →
    (∀ t, (∀ j ∈ hs, dstO ops j ≠ some t) → endF ops val hs α t = α t) ∧ (∀ j ∈ hs, ∀ t, dstO ops j = some t → (∀ j' ∈ hs, j' ≠ j → dstO ops j' ≠ some t) → endF ops val hs α t = val j)
  | [], α, N, _, _ => ⟨fun _ _ => rfl, fun j hj => by cases hj⟩
  | i0 :: hs, α, N, hp, h => by
    obtain ⟨o, h1, h2, h3, h4⟩ := h
    rw [List.nodup_cons] at hp
    have hd : dstO ops i0 = o.dst := by simp [dstO, h1]
    obtain ⟨k4, k5⟩ := Planned.end_at hs _ _ hp.2 h4
    refine ⟨fun t ht => ?_, fun j hj t hjt hot => ?_⟩
    · show endF ops val hs (α.put (dstO ops i0) (val i0)) t = α t
      rw [hd, k4 t fun j hj => ht j (by simp [hj])]
      have := ht i0 (by simp)
      rw [hd] at this
      exact put_ne this
    · show endF ops val hs (α.put (dstO ops i0) (val i0)) t = val j
      rcases List.mem_cons.1 hj with rfl | hj
      · rw [hd, k4 t fun j' hj' => hot j' (by simp [hj']) (fun e => hp.1 (e ▸ hj'))]
        rw [hd] at hjt
        rw [hjt]
        simp [Fm.put]
      · rw [hd]
        exact k5 j hj t hjt fun j' hj' hne => hot j' (by simp [hj']) hne
theorem Planned.cover : ∀ (hs : List Nat) (α : Fm) (N : List Blk), Planned P nro n γ nd ops H val nb Ns hs α N → ∀ j, N.length ≤ j → j < (endN nb hs N).length → ∃ i ∈ hs, (Ns i).length = j ∧ (nb i).isSome = true
  | [], α, N, _, j, h1, h2 => by simp only [endN] at h2; omega
  | i0 :: hs, α, N, h, j, hj1, hj2 => by
    obtain ⟨o, h1, h2, h3, h4⟩ := h
    by_cases hj : (N ++ (nb i0).toList).length ≤ j
    · obtain ⟨i, hi, k⟩ := Planned.cover hs _ _ h4 j hj hj2
      exact ⟨i, by simp [hi], k⟩
    · refine ⟨i0, by simp, ?_⟩
      cases hb : nb i0 with
      | none => rw [hb] at hj; simp at hj; omega
      | some b =>
        rw [hb] at hj
        simp at hj
        exact ⟨by rw [h2]; omega, rfl⟩
theorem Planned.lt : ∀ (hs : List Nat) (α : Fm) (N : List Blk), hs.Pairwise (· < ·) → Planned P nro n γ nd ops H val nb Ns hs α N → ∀ i ∈ hs, ∀ i' ∈ hs, i < i' → Ns i ++ (nb i).toList <+: Ns i'
  | i0 :: hs, α, N, hp, h, i, hi, i', hi', hlt => by
    obtain ⟨o, h1, h2, h3, h4⟩ := h
    rw [List.pairwise_cons] at hp
    rcases List.mem_cons.1 hi with e | h5
    · rcases List.mem_cons.1 hi' with e' | h6
      · omega
      · rw [e, h2]; exact Planned.pre hs _ _ h4 i' h6
    · rcases List.mem_cons.1 hi' with e' | h6
      · have := hp.1 i h5; omega
      · exact Planned.lt hs _ _ hp.2 h4 i h5 i' h6 hlt
end
end Go.Proofs.YtjfhdckcjkgjnaaDoor
