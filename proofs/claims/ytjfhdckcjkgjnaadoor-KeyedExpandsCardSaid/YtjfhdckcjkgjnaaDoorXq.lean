/-
  Operations that only read, told by a function on what the walk knows; and that it holds of the machine. Over any program.
-/
import Derived.Test.YtjfhdckcjkgjnaaDoorXa
namespace Go.Proofs.YtjfhdckcjkgjnaaDoor
open Go Go.RowKit
set_option linter.unusedVariables false

/-- Integers of one kind as cells. -/
def iv (k : IntKind) (l : List Int) : List Value := l.map (Value.int k)
@[simp] theorem iv_length (k : IntKind) (l : List Int) : (iv k l).length = l.length := by simp [iv]
theorem iv_get (k : IntKind) (l : List Int) (i : Nat) (h : i < l.length) : (iv k l)[i]? = some (.int k (l.getD i 0)) := by simp [iv, List.getElem?_eq_getElem h]
theorem iv_set (k : IntKind) (l : List Int) (i : Nat) (x : Int) : (iv k l).set i (.int k x) = iv k (l.set i x) := by simp [iv, List.map_set]
theorem iv_append (k : IntKind) (l r : List Int) : iv k (l ++ r) = iv k l ++ iv k r := by simp [iv]
theorem iv_drop (k : IntKind) (l : List Int) (i : Nat) : (iv k l).drop i = iv k (l.drop i) := by simp [iv, List.map_drop]
theorem iv_take (k : IntKind) (l : List Int) (i : Nat) : (iv k l).take i = iv k (l.take i) := by simp [iv, List.map_take]
theorem iv_plain (k : IntKind) (l : List Int) : plain2 (.agg (iv k l).toArray) = true := by
  show (iv k l).toArray.all plain1 = true
  simp [iv, plain1]
theorem iv_replicate (k : IntKind) (n : Nat) (x : Int) : List.replicate n (Value.int k x) = iv k (List.replicate n x) := by simp [iv]

/-- Noughts. -/
def zl (n : Nat) : List Int := List.replicate n 0
@[simp] theorem zl_length (n : Nat) : (zl n).length = n := by simp [zl]
def und (P : Program) (t : TypeId) : TypeDesc := (P.underlying t).getD .invalid
def szt (P : Program) (t : TypeId) : Nat := ((P.info? t).map (·.size)).getD 0
def isAggD : TypeDesc → Bool | .struct _ | .array _ _ => true | _ => false
theorem und_some {P : Program} {t : TypeId} {d : TypeDesc} (h : und P t = d) (hd : d ≠ .invalid) : P.underlying t = some d := by
  unfold und at h
  cases hu : P.underlying t with
  | none => rw [hu] at h; exact absurd h.symm hd
  | some d' => rw [hu] at h; simp only [Option.getD_some] at h; rw [h]
theorem szt_info {P : Program} {t : TypeId} (h : 0 < szt P t) : ∃ i, P.info? t = some i ∧ i.size = szt P t := by
  unfold szt at h ⊢
  cases hi : P.info? t with
  | none => rw [hi] at h; simp at h
  | some i => exact ⟨i, rfl, by simp⟩
section
variable {P : Program}
theorem run_sizeOf {t : TypeId} (h : 0 < szt P t) (w : World) : (sizeOf t).run P w = .ok (szt P t) w := by
  obtain ⟨i, h1, h2⟩ := szt_info h
  simp [sizeOf, typeInfo, h1, h2]
theorem run_isAgg {t : TypeId} (h : und P t ≠ .invalid) (w : World) : (isAgg t).run P w = .ok (isAggD (und P t)) w := by
  have := und_some rfl h
  simp only [isAgg, Sem.run_bind, run_underlying this, Result.andThen_ok]
  cases und P t <;> simp [isAggD]
theorem run_load_cell {w : World} {b o : Nat} {v : Value} (h : w.cell? ⟨b, o, none⟩ = some v) : (load ⟨b, o, none⟩).run P w = .ok v w := by
  simp [load, Sem.run, h]
theorem add_none (b o k : Nat) : (⟨b, o, none⟩ : Addr).add k = ⟨b, o + k, none⟩ := by unfold Addr.add; split <;> simp_all
theorem run_loadVar_one {w : World} {t : TypeId} {b o : Nat} {v : Value} (ht : und P t ≠ .invalid) (hg : isAggD (und P t) = false) (h : w.cell? ⟨b, o, none⟩ = some v) : (loadVar t ⟨b, o, none⟩).run P w = .ok v w := by
  simp only [loadVar, Sem.run_bind, run_isAgg ht, hg, Result.andThen_ok, Bool.false_eq_true, if_false]
  exact run_load_cell h
theorem run_loadVar_agg {w : World} {t : TypeId} {b o : Nat} {cs : List Value} (ht : und P t ≠ .invalid) (hg : isAggD (und P t) = true) (hs : 0 < szt P t) (hl : cs.length = szt P t)
    (h : ∀ j v, cs[j]? = some v → w.cell? ⟨b, o + j, none⟩ = some v) : (loadVar t ⟨b, o, none⟩).run P w = .ok (.agg cs.toArray) w := by
  have h1 := run_loadCells_list (P := P) w ⟨b, o, none⟩ cs (fun j v hj => by rw [add_none]; exact h j v hj)
  rw [hl] at h1
  simp [loadVar, run_isAgg ht, hg, run_sizeOf hs, h1]
end

def hget (H : AH) (i : Nat) : Option Blk := (H[i]?).join
theorem hget_some {H : AH} {i : Nat} {k : Blk} (h : hget H i = some k) : H[i]? = some (some k) := by
  unfold hget at h
  cases hi : H[i]? with
  | none => rw [hi] at h; cases h
  | some x => rw [hi] at h; simp at h; rw [h]

/-- The byte of a string at a place, as a number. -/
def gb (s : ByteArray) (i : Nat) : Int := ((s.data.toList.getD i 0).toNat : Int)
theorem gb_bd (s : ByteArray) (i : Nat) : 0 ≤ gb s i ∧ gb s i ≤ 255 := by
  unfold gb
  have := (s.data.toList.getD i 0).toNat_lt
  omega
theorem gb_at (s : ByteArray) (i : Nat) (h : i < s.size) : gb s i = (s[i].toNat : Int) := by
  unfold gb
  have h' : i < s.data.toList.length := by simpa using h
  rw [List.getD_eq_getElem?_getD, List.getElem?_eq_getElem h']
  simp [ByteArray.getElem_eq_getElem_data]

def bitsOf (op : BinOp) (k : IntKind) (x y : Int) : Int :=
  let a := BitVec.ofInt k.bits x
  let b := BitVec.ofInt k.bits y
  match op with
  | .and => k.wrap (a &&& b).toNat
  | .or => k.wrap (a ||| b).toNat
  | .xor => k.wrap (a ^^^ b).toNat
  | _ => k.wrap (a &&& ~~~b).toNat

/-- Two operands. -/
def xint (op : BinOp) (k : IntKind) (a b : Int) : Option Value :=
  match op with
  | .add => some (.int k (k.wrap (a + b)))
  | .sub => some (.int k (k.wrap (a - b)))
  | .mul => some (.int k (k.wrap (a * b)))
  | .quo => if b = 0 then none else some (.int k (k.wrap (a.tdiv b)))
  | .rem => if b = 0 then none else some (.int k (a.tmod b))
  | .and => some (.int k (bitsOf .and k a b))
  | .or => some (.int k (bitsOf .or k a b))
  | .xor => some (.int k (bitsOf .xor k a b))
  | .andNot => some (.int k (bitsOf .andNot k a b))
  | .eql => some (.bool (a == b))
  | .neq => some (.bool (a != b))
  | .lss => some (.bool (decide (a < b)))
  | .leq => some (.bool (decide (a ≤ b)))
  | .gtr => some (.bool (decide (a > b)))
  | .geq => some (.bool (decide (a ≥ b)))
  | _ => none
def xstr (op : BinOp) (a b : ByteArray) : Option Value :=
  match op with
  | .add => if a.size + b.size ≤ 9223372036854775807 then some (.string (a ++ b)) else none
  | .eql => some (.bool (a.toList == b.toList))
  | .neq => some (.bool (!(a.toList == b.toList)))
  | .lss => some (.bool (Op.bytesLess a.toList b.toList))
  | .leq => some (.bool (Op.bytesLess a.toList b.toList || a.toList == b.toList))
  | .gtr => some (.bool (!(Op.bytesLess a.toList b.toList || a.toList == b.toList)))
  | .geq => some (.bool (!(Op.bytesLess a.toList b.toList)))
  | _ => none
def xbin (P : Program) (op : BinOp) (t : TypeId) (x y : Value) : Option Value :=
  match op, x, y with
  | .shl, .int k a, .int _ b => if b < 0 then none else some (.int k (k.wrap (a * 2 ^ (min b.toNat k.bits))))
  | .shr, .int k a, .int _ b => if b < 0 then none else some (.int k (a.fdiv (2 ^ (min b.toNat k.bits))))
  | op, .int k a, .int k' b => if k = k' then xint op k a b else none
  | op, .string a, .string b => xstr op a b
  | .eql, .bool a, .bool b => match und P t with | .bool => some (.bool (a == b)) | _ => none
  | .neq, .bool a, .bool b => match und P t with | .bool => some (.bool (a != b)) | _ => none
  | _, _, _ => none
def xun (op : UnOp) (x : Value) : Option Value :=
  match op, x with
  | .neg, .int k a => some (.int k (k.wrap (0 - a)))
  | .xor, .int k a => some (.int k (bitsOf .xor k (if k.signed then -1 else k.max) a))
  | .not, .bool b => some (.bool !b)
  | _, _ => none

section
variable {P : Program}
theorem xint_run {op : BinOp} {k : IntKind} {t : TypeId} {a b : Int} {v : Value} (h : xint op k a b = some v) (h1 : op ≠ .shl) (h2 : op ≠ .shr) (w : World) : (binOp op t (.int k a) (.int k b)).run P w = .ok v w := by
  cases op <;> simp only [xint] at h <;> first | (cases h; done) | skip
  case quo => split at h <;> cases h; rename_i hb; simp [binOp, Op.intDiv, hb]
  case rem => split at h <;> cases h; rename_i hb; simp [binOp, Op.intDiv, hb]
  all_goals (cases h; first | (simp [binOp, Op.intArith]; done) | (simp [binOp, Op.intBits, bitsOf]; done) | (simp [binOp, Op.intCmp]; done) | exact absurd rfl h1 | exact absurd rfl h2)
theorem xstr_run {op : BinOp} {t : TypeId} {a b : ByteArray} {v : Value} (h : xstr op a b = some v) (w : World) : (binOp op t (.string a) (.string b)).run P w = .ok v w := by
  cases op <;> simp only [xstr] at h <;> first | (cases h; done) | skip
  case add =>
    split at h <;> cases h
    rename_i hb
    have hb' : ¬ ((a.size : Int) + b.size > IntKind.i64.max) := by have : IntKind.i64.max = 9223372036854775807 := rfl; omega
    simp [binOp, Op.stringOp]
    omega
  all_goals (cases h; simp [binOp, Op.stringOp])
theorem guard_int (op : BinOp) (t : TypeId) (ox oy : Operand) (k k' : IntKind) (a b : Int) (w : World) : (eqGuard op t ox oy (.int k a) (.int k' b)).run P w = .ok () w := by
  cases op <;> simp [eqGuard]
theorem guard_str (op : BinOp) (t : TypeId) (ox oy : Operand) (a b : ByteArray) (w : World) : (eqGuard op t ox oy (.string a) (.string b)).run P w = .ok () w := by
  cases op <;> simp [eqGuard]
theorem guard_bool (op : BinOp) (t : TypeId) (ox oy : Operand) (a b : Bool) (w : World) : (eqGuard op t ox oy (.bool a) (.bool b)).run P w = .ok () w := by
  cases op <;> simp [eqGuard]
theorem run_equal_bool {t : TypeId} (hu : P.underlying t = some .bool) (a b : Bool) (w : World) : (Op.equal t (.bool a) (.bool b)).run P w = .ok (a == b) w := by
  show (Op.equalIn (9999 + 1) t (.bool a) (.bool b)).run P w = _
  unfold Op.equalIn
  rw [Sem.run_bind, run_underlying hu]
  rfl
theorem xbin_run {op : BinOp} {t : TypeId} {x y : Value} {v : Value} (h : xbin P op t x y = some v) (ox oy : Operand) (w : World) :
    (do eqGuard op t ox oy x y; binOp op t x y : Sem Value).run P w = .ok v w := by
  unfold xbin at h
  split at h
  · split at h <;> cases h
    rename_i hb
    rw [Sem.run_bind, guard_int]
    simp [binOp, Op.shift, hb]
  · split at h <;> cases h
    rename_i hb
    rw [Sem.run_bind, guard_int]
    simp [binOp, Op.shift, hb]
  · rename_i h1 h2
    split at h
    · rename_i hk
      subst hk
      rw [Sem.run_bind, guard_int]
      exact xint_run h (fun e => h1 e) (fun e => h2 e) w
    · cases h
  · rw [Sem.run_bind, guard_str]
    exact xstr_run h w
  · split at h <;> cases h
    rename_i x y _ hu
    rw [Sem.run_bind, guard_bool]
    have h2 : (binOp .eql t (.bool x) (.bool y)).run P w = .ok (.bool (x == y)) w := by
      show ((do pure (.bool (← Op.equal t (.bool x) (.bool y))) : Sem Value).run P w) = _
      rw [Sem.run_bind, run_equal_bool (und_some hu (by simp))]
      rfl
    exact h2
  · split at h <;> cases h
    rename_i x y _ hu
    rw [Sem.run_bind, guard_bool]
    have h2 : (binOp .neq t (.bool x) (.bool y)).run P w = .ok (.bool (x != y)) w := by
      show ((do pure (.bool (!(← Op.equal t (.bool x) (.bool y)))) : Sem Value).run P w) = _
      rw [Sem.run_bind, run_equal_bool (und_some hu (by simp))]
      rfl
    exact h2
  · cases h
theorem xun_run {op : UnOp} {x : Value} {v : Value} (h : xun op x = some v) (w : World) : (Op.unary op x).run P w = .ok v w := by
  unfold xun at h
  split at h <;> cases h
  · simp [Op.unary, Op.intArith]
  · simp [Op.unary, Op.intBits, bitsOf]
  · simp [Op.unary]
end
end Go.Proofs.YtjfhdckcjkgjnaaDoor
