/-
  Operations that write or make memory: the function. And reading operations, all of them. Over any program.
-/
import Derived.Test.YtjfhdckcjkgjnaaDoorXy
namespace Go.Proofs.YtjfhdckcjkgjnaaDoor
open Go Go.RowKit
set_option linter.unusedVariables false

/-- Cells of a known row that a slice shows. -/
def xcells (sz : Nat) (x : Value) (H : AH) : Option (List Value) :=
  match x with
  | .slice none 0 0 => some []
  | .slice (some ⟨_, _, some 0⟩) 0 0 => some []
  | .slice (some ⟨i, off, none⟩) len _ => (match hget H i with
    | some k => if off + len * sz ≤ k.cells.length then some ((k.cells.drop off).take (len * sz)) else none
    | none => none)
  | .string s => if sz = 1 then some (iv .u8 (s.data.toList.map fun b => (b.toNat : Int))) else none
  | _ => none
def byt (P : Program) (t : TypeId) : Nat := ((P.info? t).map (·.bytes)).getD 0
def nums (s : ByteArray) : List Int := s.data.toList.map fun b => (b.toNat : Int)

def xappend (P : Program) (nro : Nat) (t : TypeId) (s x : Value) (H : AH) : Option (Value × AH) :=
  match und P t with
  | .slice e =>
    (match x with
    | .string _ => none
    | _ => (match xcells (szt P e) x H with
      | none => none
      | some news => (match s with
        | .slice none 0 0 =>
          if 0 < szt P e ∧ (zer P e).map (·.cells.size) = some (szt P e) ∧ news.length * byt P e ≤ 140737488355328 ∧ news.length ≤ maxLen then
            (if news = [] then some (.slice none 0 0, H) else some (.slice (some ⟨H.length, 0, none⟩) (news.length / szt P e) (news.length / szt P e), H ++ [some ⟨news, e, some (szt P e)⟩]))
          else none
        | .slice (some ⟨i, 0, none⟩) len c => (match hget H i with
          | some k => if c = len ∧ 0 < szt P e ∧ (zer P e).map (·.cells.size) = some (szt P e) ∧ nro ≤ i ∧ k.ty = e ∧ k.es = some (szt P e) ∧ len * szt P e ≤ k.cells.length ∧ (len * szt P e + news.length) * byt P e ≤ 140737488355328 ∧ len * szt P e + news.length ≤ maxLen then
              some (.slice (some ⟨H.length, 0, none⟩) (len + news.length / szt P e) (len + news.length / szt P e), H.set i none ++ [some ⟨k.cells.take (len * szt P e) ++ news, e, some (szt P e)⟩]) else none
          | none => none)
        | _ => none)))
  | _ => none
def xcopy (P : Program) (nro : Nat) (t : TypeId) (d x : Value) (H : AH) : Option (Value × AH) :=
  match und P t with
  | .slice e => (match xcells (szt P e) x H, d with
    | some news, .slice (some ⟨i, off, none⟩) len _ => (match hget H i with
      | some k => if 0 < szt P e ∧ nro ≤ i ∧ off + len * szt P e ≤ k.cells.length then
          some (.int .i64 ((min (news.length / szt P e) len : Nat) : Int), H.set i (some ⟨setR k.cells off (news.take (min (news.length / szt P e) len * szt P e)), k.ty, k.es⟩)) else none
      | none => none)
    | some news, .slice (some ⟨_, _, some 0⟩) 0 0 => if 0 < szt P e then some (.int .i64 0, H) else none
    | _, _ => none)
  | _ => none

/-- New noughts onto nil. -/
def xappmk (P : Program) (t u : TypeId) (s x : Value) (H : AH) : Option (Value × AH) :=
  match und P t, und P u, s, x with
  | .slice e, .int _, .slice none 0 0, .int _ n =>
    (match zer P e with
      | some z => if 0 < n ∧ 0 < szt P e ∧ z.cells.size = szt P e ∧ z.cells.toList.all plain1 = true ∧ n * byt P e ≤ 140737488355328 ∧ n ≤ maxLen then
          some (.slice (some ⟨H.length, 0, none⟩) n.toNat n.toNat, H ++ [some ⟨(List.range (n.toNat * szt P e)).map fun j => z.cells.toList.getD (j % szt P e) undef, e, some (szt P e)⟩]) else none
      | none => none)
  | _, _, _, _ => none
/-- A string's bytes onto a row of bytes. -/
def xappstr (P : Program) (nro : Nat) (t : TypeId) (s x : Value) (H : AH) : Option (Value × AH) :=
  match und P t, x with
  | .slice e, .string b =>
    (match zer P e with
    | some (.int .u8 z) => if z = 0 ∧ szt P e = 1 ∧ byt P e = 1 then
      (match s with
      | .slice none 0 0 => if b.size ≤ 140737488355328 ∧ b.size ≤ maxLen then
          (if b.size = 0 then some (.slice none 0 0, H) else some (.slice (some ⟨H.length, 0, none⟩) b.size b.size, H ++ [some ⟨iv .u8 (nums b), e, some 1⟩])) else none
      | .slice (some ⟨i, 0, none⟩) len c => (match hget H i with
        | some k => if c = len ∧ nro ≤ i ∧ k.ty = e ∧ k.es = some 1 ∧ len ≤ k.cells.length ∧ len + b.size ≤ 140737488355328 ∧ len + b.size ≤ maxLen then
            some (.slice (some ⟨H.length, 0, none⟩) (len + b.size) (len + b.size), H.set i none ++ [some ⟨k.cells.take len ++ iv .u8 (nums b), e, some 1⟩]) else none
        | none => none)
      | _ => none) else none
    | _ => none)
  | _, _ => none
def xapp2 (P : Program) (nro : Nat) (t u : TypeId) (s x : Value) (H : AH) : Option (Value × AH) :=
  match und P u with
  | .string => xappstr P nro t s x H
  | _ => xappmk P t u s x H
def xcap (P : Program) (t : TypeId) (x : Value) : Option Value :=
  match und P t, x with
  | .slice _, .slice none 0 0 => some (.int .i64 0)
  | _, _ => none
/-- An operation that makes or writes memory. -/
def xeff (P : Program) (nro : Nat) (γ : Nat → Option Nat) (op : Op) (α : Fm) (H : AH) : Option (Value × AH) :=
  match op with
  | .alloc t => (match zer P t with | some z => if z.cells.toList.all plain1 = true then some (.pointer (some ⟨H.length, 0, none⟩), H ++ [some ⟨z.cells.toList, t, none⟩]) else none | none => none)
  | .box t x => if notTuple (α.eval γ x) = true then some (.pointer (some ⟨H.length, 0, none⟩), H ++ [some ⟨(α.eval γ x).cells.toList, t, none⟩]) else none
  | .store t p x => (match α.eval γ p with
    | .pointer (some ⟨i, off, none⟩) => (match hget H i with
      | some k => if nro ≤ i ∧ notTuple (α.eval γ x) = true ∧ (α.eval γ x).cells.toList.length = szt P t ∧ 0 < szt P t ∧ off + szt P t ≤ k.cells.length then
          some (undef, H.set i (some ⟨setR k.cells off (α.eval γ x).cells.toList, k.ty, k.es⟩)) else none
      | none => none)
    | _ => none)
  | .buildSlice t len ps => (match und P t with
    | .slice e => (match zer P e with
      | some z => if 0 < szt P e ∧ z.cells.size = szt P e ∧ z.cells.toList.all plain1 = true ∧ len * szt P e ≤ 16777216 ∧ (ps.toList.all fun p => notTuple (α.eval γ p.2)) = true then
          (match xfill (fun i => some (i * szt P e, szt P e)) ((List.range (len * szt P e)).map fun j => z.cells.toList.getD (j % szt P e) undef) (ps.toList.map fun p => (p.1, α.eval γ p.2)) with
            | some cs => some (.slice (some ⟨H.length, 0, none⟩) len len, H ++ [some ⟨cs, e, some (szt P e)⟩])
            | none => none) else none
      | none => none)
    | _ => none)
  | .makeSlice t l c => (match und P t, α.eval γ l, α.eval γ c with
    | .slice e, .int _ l, .int _ c => (match zer P e with
      | some z => if 0 < szt P e ∧ z.cells.size = szt P e ∧ z.cells.toList.all plain1 = true ∧ 0 ≤ l ∧ l ≤ c ∧ c * byt P e ≤ 140737488355328 ∧ c ≤ maxLen then
          some (.slice (some ⟨H.length, 0, none⟩) l.toNat l.toNat, H ++ [some ⟨(List.range (c.toNat * szt P e)).map fun j => z.cells.toList.getD (j % szt P e) undef, e, some (szt P e)⟩]) else none
      | none => none)
    | _, _, _ => none)
  | .convert s d x => (match und P s, und P d, α.eval γ x with
    | .string, .slice e, .string b => (match und P e with | .int .u8 => some (.slice (some ⟨H.length, 0, none⟩) b.size b.size, H ++ [some ⟨iv .u8 (nums b), e, none⟩]) | _ => none)
    | _, _, _ => none)
  | .call c => (match c.callee, c.args.toList, c.argTypes.toList with
    | .builtin .append, [s, x], [t, u] => if t = u then xappend P nro t (α.eval γ s) (α.eval γ x) H else xapp2 P nro t u (α.eval γ s) (α.eval γ x) H
    | .builtin .copy, [d, x], [t, _] => xcopy P nro t (α.eval γ d) (α.eval γ x) H
    | _, _, _ => none)
  | _ => none

/-- Is a value nil? -/
def xnil (P : Program) (op : BinOp) (t : TypeId) (x y : Value) : Option Value :=
  match op, und P t, x, y with
  | .eql, .pointer _, .pointer a, .pointer none => some (.bool a.isNone)
  | .eql, .pointer _, .pointer none, .pointer b => some (.bool b.isNone)
  | .eql, .slice _, .slice a _ _, .slice none _ _ => some (.bool a.isNone)
  | .eql, .slice _, .slice none _ _, .slice b _ _ => some (.bool b.isNone)
  | .neq, .pointer _, .pointer a, .pointer none => some (.bool (!a.isNone))
  | .neq, .pointer _, .pointer none, .pointer b => some (.bool (!b.isNone))
  | .neq, .slice _, .slice a _ _, .slice none _ _ => some (.bool (!a.isNone))
  | .neq, .slice _, .slice none _ _, .slice b _ _ => some (.bool (!b.isNone))
  | _, _, _, _ => none

/-- One cell's value. -/
def oneV : Value → Bool
  | .agg _ | .tuple _ => false
  | _ => true
/-- An operation that only reads. -/
def xread (P : Program) (γ : Nat → Option Nat) (op : Op) (α : Fm) (H : AH) : Option Value :=
  match op with
  | .move x => some (α.eval γ x)
  | .assign x => some (α.eval γ x)
  | .pick c a b => (match α.eval γ c with | .bool t => some (if t then α.eval γ a else α.eval γ b) | _ => none)
  | .binOp op t x y _ => (match xeqA P op t (α.eval γ x) (α.eval γ y) with | some v => some v | none => (match xbin P op t (α.eval γ x) (α.eval γ y) with | some v => some v | none => xnil P op t (α.eval γ x) (α.eval γ y)))
  | .unOp op _ x => xun op (α.eval γ x)
  | .convert s d x => xconv P s d (α.eval γ x) H
  | .load t x => xload P t (α.eval γ x) H
  | .fieldAddr t x f => xfieldAddr P t (α.eval γ x) f
  | .field t x f => xfield P t (α.eval γ x) f
  | .indexAddr t x i => xindexAddr P t (α.eval γ x) (α.eval γ i)
  | .index t x i => xindex P t (α.eval γ x) (α.eval γ i)
  | .slice t x lo hi none => xslice P t (α.eval γ x) (lo.map (α.eval γ)) (hi.map (α.eval γ)) H
  | .extract x i => (match α.eval γ x with | .tuple vs => vs[i]? | _ => none)
  | .nilCheck x => (match α.eval γ x with | .pointer (some a) => some (.pointer (some a)) | _ => none)
  | .build t ps => xbuild P t (ps.toList.map fun p => (p.1, α.eval γ p.2))
  | .makeFunc (.func f) fs cs => if ((fs.toList.all fun o => oneV (α.eval γ o)) && (cs.toList.all fun o => oneV (α.eval γ o))) = true then some (.func (.func f) (fs.map (α.eval γ)) (cs.map (α.eval γ))) else none
  | .call c => (match c.callee, c.args.toList, c.argTypes.toList with
    | .builtin .len, [x], [t] => xlen P t (α.eval γ x)
    | .builtin .min, [x, y], _ => xmin (α.eval γ x) (α.eval γ y)
    | .builtin .max, [x, y], _ => xmax (α.eval γ x) (α.eval γ y)
    | .builtin .cap, [x], [t] => xcap P t (α.eval γ x)
    | _, _, _ => none)
  | _ => none

section
variable {P : Program} {nro n base : Nat} {γ : Nat → Option Nat} {m : List Ent} {H : AH} {α : Fm} {a : Act} {w : World}

theorem xint_plain {op : BinOp} {k : IntKind} {a b : Int} {v : Value} (h : xint op k a b = some v) : plainV v = true := by
  cases op <;> simp only [xint] at h <;> first | (cases h; done) | (cases h; rfl) | (split at h <;> cases h; rfl)
theorem xstr_plain {op : BinOp} {a b : ByteArray} {v : Value} (h : xstr op a b = some v) : plainV v = true := by
  cases op <;> simp only [xstr] at h <;> first | (cases h; done) | (cases h; rfl) | (split at h <;> cases h; rfl)
theorem xbin_plain {op : BinOp} {t : TypeId} {x y v : Value} (h : xbin P op t x y = some v) : plainV v = true := by
  unfold xbin at h
  split at h
  · split at h <;> cases h; rfl
  · split at h <;> cases h; rfl
  · split at h
    · exact xint_plain h
    · cases h
  · exact xstr_plain h
  · split at h <;> cases h; rfl
  · split at h <;> cases h; rfl
  · cases h
theorem V.pnil {o : Option Addr} {y : Value} (h : V m (.pointer o) y) : ∃ o', y = .pointer o' ∧ o'.isNone = o.isNone := by
  cases h with
  | two h =>
    cases h with
    | one h =>
      cases h with
      | plain h => exact ⟨_, rfl, rfl⟩
      | ptr h => exact ⟨_, rfl, rfl⟩
theorem V.snil {o : Option Addr} {l c : Nat} {y : Value} (h : V m (.slice o l c) y) : ∃ o' l' c', y = .slice o' l' c' ∧ o'.isNone = o.isNone := by
  cases h with
  | two h =>
    cases h with
    | one h =>
      cases h with
      | plain h => exact ⟨_, _, _, rfl, rfl⟩
      | sl h1 h2 h3 => exact ⟨_, _, _, rfl, rfl⟩
      | slv h1 h2 => exact ⟨_, _, _, rfl, rfl⟩
      | sl0 => exact ⟨_, _, _, rfl, rfl⟩
theorem run_equal_ptr {t e : TypeId} (hu : P.underlying t = some (.pointer e)) (a b : Option Addr) (hab : a = none ∨ b = none) (w : World) : (Op.equal t (.pointer a) (.pointer b)).run P w = .ok (a.isNone && b.isNone) w := by
  show (Op.equalIn (9999 + 1) t (.pointer a) (.pointer b)).run P w = _
  unfold Op.equalIn
  rw [Sem.run_bind, run_underlying hu]
  rcases hab with rfl | rfl
  · simp
  · cases a <;> simp
theorem run_equal_sl {t e : TypeId} (hu : P.underlying t = some (.slice e)) (a b : Option Addr) (l c l' c' : Nat) (hab : a = none ∨ b = none) (w : World) : (Op.equal t (.slice a l c) (.slice b l' c')).run P w = .ok (a.isNone && b.isNone) w := by
  show (Op.equalIn (9999 + 1) t (.slice a l c) (.slice b l' c')).run P w = _
  unfold Op.equalIn
  rw [Sem.run_bind, run_underlying hu]
  rcases hab with rfl | rfl
  · simp
  · cases a <;> simp
theorem guard_ptr (op : BinOp) (t : TypeId) (ox oy : Operand) (a b : Option Addr) (w : World) : (eqGuard op t ox oy (.pointer a) (.pointer b)).run P w = .ok () w := by
  cases op <;> simp [eqGuard]
theorem guard_sl (op : BinOp) (t : TypeId) (ox oy : Operand) (a b : Option Addr) (l c l' c' : Nat) (w : World) : (eqGuard op t ox oy (.slice a l c) (.slice b l' c')).run P w = .ok () w := by
  cases op <;> simp [eqGuard]
theorem isNone_none {o : Option Addr} (h : o.isNone = true) : o = none := by cases o; rfl; cases h
theorem xnil_run {op : BinOp} {t : TypeId} {x y x' y' v : Value} (hx : V m x x') (hy : V m y y') (h : xnil P op t x y = some v) (ox oy : Operand) (w : World) :
    (do eqGuard op t ox oy x' y'; binOp op t x' y' : Sem Value).run P w = .ok v w ∧ plainV v = true := by
  unfold xnil at h
  split at h <;> (try (cases h; done))
  all_goals (rename_i e a b hu; cases h)
  all_goals first
    | (obtain ⟨a', rfl, ha⟩ := hx.pnil
       obtain ⟨b', rfl, hb⟩ := hy.pnil
       refine ⟨?_, rfl⟩
       rw [Sem.run_bind, guard_ptr]
       first
         | (have hn := isNone_none (hb.trans rfl)
            subst hn
            simp [binOp, run_equal_ptr (und_some hu (by simp)) a' none (.inr rfl) w, ha])
         | (have hn := isNone_none (ha.trans rfl)
            subst hn
            simp [binOp, run_equal_ptr (und_some hu (by simp)) none b' (.inl rfl) w, hb]))
    | (obtain ⟨a', l1, c1, rfl, ha⟩ := hx.snil
       obtain ⟨b', l2, c2, rfl, hb⟩ := hy.snil
       refine ⟨?_, rfl⟩
       rw [Sem.run_bind, guard_sl]
       first
         | (have hn := isNone_none (hb.trans rfl)
            subst hn
            simp [binOp, run_equal_sl (und_some hu (by simp)) a' none l1 c1 l2 c2 (.inr rfl) w, ha])
         | (have hn := isNone_none (ha.trans rfl)
            subst hn
            simp [binOp, run_equal_sl (und_some hu (by simp)) none b' l1 c1 l2 c2 (.inl rfl) w, hb]))
theorem run_v {S : Sem Value} {x : Value} {w' : World} (h : S.run P w' = .ok x w') : (do pure (.value (← S)) : Sem Next).run P w' = .ok (.value x) w' := by
  simp [h]
theorem V.v1 {x y : Value} (h : V m x y) (ho : oneV x = true) : V1 m x y := by
  cases h with
  | two h =>
    cases h with
    | one h => exact h
    | agg _ _ => cases ho
  | tup _ _ => cases ho
theorem v1_map {os : Array Operand} {α : Fm} {a : Act} (ev : ∀ x ∈ os, V m (α.eval γ x) (a.eval x)) (h : (os.toList.all fun o => oneV (α.eval γ o)) = true) :
    (os.map a.eval).size = (os.map (α.eval γ)).size ∧ ∀ (i : Nat) (x y : Value), (os.map (α.eval γ))[i]? = some x → (os.map a.eval)[i]? = some y → V1 m x y := by
  refine ⟨by simp, fun i x y hx hy => ?_⟩
  rw [Array.getElem?_map] at hx hy
  cases hq : os[i]? with
  | none => rw [hq] at hx; cases hx
  | some q =>
    rw [hq] at hx hy
    cases hx
    cases hy
    have hm : q ∈ os := Array.mem_of_getElem? hq
    exact (ev q hm).v1 (List.all_eq_true.1 h q (by simpa using hm))
theorem xread_ev {o : Oper} {v : Value} (hR : Rel nro base γ m H w) (ev : ∀ x ∈ o.op.operands, V m (α.eval γ x) (a.eval x)) (h : xread P γ o.op α H = some v) :
    ∃ v', V m v v' ∧ ∀ w', Below w.heap.size w w' → (execOp a.eval o).run P w' = .ok (.value v') w' := by
  obtain ⟨dst, op, type, pos, after, guard⟩ := o
  simp only at ev h
  unfold xread at h
  split at h
  · rename_i x
    cases h
    exact ⟨_, ev x (by simp [Op.operands]), fun w' _ => by simp [execOp]⟩
  · rename_i x
    cases h
    exact ⟨_, ev x (by simp [Op.operands]), fun w' _ => by simp [execOp]⟩
  · rename_i c x y
    split at h
    case h_2 => cases h
    rename_i t ht
    cases h
    have hc := ev c (by simp [Op.operands])
    rw [ht] at hc
    have hc := hc.eq rfl
    refine ⟨if t then a.eval x else a.eval y, ?_, fun w' _ => ?_⟩
    · cases t
      · exact ev y (by simp [Op.operands])
      · exact ev x (by simp [Op.operands])
    · cases t <;> simp [execOp, hc, asBool]
  · rename_i op t x y _
    have hx := ev x (by simp [Op.operands])
    have hy := ev y (by simp [Op.operands])
    split at h
    · rename_i v' hq
      cases h
      obtain ⟨_, p1, p2, p3⟩ := xeqA_run hq x y w
      rw [← hx.eq p1, ← hy.eq p2] at hq
      exact ⟨v, plainV_mk p3, fun w' _ => run_v (xeqA_run hq x y w').1⟩
    split at h
    case h_2 => exact ⟨v, plainV_mk (xnil_run hx hy h x y w).2, fun w' _ => run_v (xnil_run hx hy h x y w').1⟩
    rename_i v1 hq1
    cases h
    have h := hq1
    clear hq1
    have hp : plainV (α.eval γ x) = true ∧ plainV (α.eval γ y) = true := by
      unfold xbin at h
      split at h <;> first | (cases h; done) | (rename_i e1 e2; rw [e1, e2]; exact ⟨rfl, rfl⟩) | (constructor <;> simp [*, plainV, plain2, plain1])
    have hpl := xbin_plain h
    rw [← hx.eq hp.1, ← hy.eq hp.2] at h
    exact ⟨v, plainV_mk hpl, fun w' _ => run_v (xbin_run h x y w')⟩
  · rename_i op t x
    have hx := ev x (by simp [Op.operands])
    have hp : plainV (α.eval γ x) = true ∧ plainV v = true := by
      unfold xun at h
      split at h <;> cases h <;> (constructor <;> simp [*, plainV, plain2, plain1])
    rw [← hx.eq hp.1] at h
    exact ⟨v, plainV_mk hp.2, fun w' _ => run_v (xun_run h w')⟩
  · rename_i s d x
    obtain ⟨v', h1, h2⟩ := xconv_run hR (ev x (by simp [Op.operands])) h
    exact ⟨v', h1, fun w' hb => run_v (h2 w' hb)⟩
  · rename_i t x
    obtain ⟨v', h1, h2⟩ := xload_run hR (ev x (by simp [Op.operands])) h
    exact ⟨v', h1, fun w' hb => run_v (h2 w' hb)⟩
  · rename_i t x f
    obtain ⟨v', h1, h2⟩ := xfieldAddr_run (ev x (by simp [Op.operands])) h
    exact ⟨v', h1, fun w' hb => run_v (h2 w')⟩
  · rename_i t x f
    obtain ⟨v', h1, h2⟩ := xfield_run (ev x (by simp [Op.operands])) h
    exact ⟨v', h1, fun w' hb => run_v (h2 w')⟩
  · rename_i t x i
    obtain ⟨v', h1, h2⟩ := xindexAddr_run (ev x (by simp [Op.operands])) (ev i (by simp [Op.operands])) h
    exact ⟨v', h1, fun w' hb => run_v (h2 w')⟩
  · rename_i t x i
    obtain ⟨v', h1, h2⟩ := xindex_run (ev x (by simp [Op.operands])) (ev i (by simp [Op.operands])) h
    exact ⟨v', h1, fun w' hb => run_v (h2 w')⟩
  · rename_i t x lo hi
    obtain ⟨v', h1, h2⟩ := xslice_run hR (ev x (by simp [Op.operands])) (fun y hy => ev y (by subst hy; simp [Op.operands])) (fun y hy => ev y (by subst hy; simp [Op.operands])) h
    exact ⟨v', h1, fun w' hb => run_v (h2 w')⟩
  · rename_i x i
    split at h
    case h_2 => cases h
    rename_i vs hvs
    have hx := ev x (by simp [Op.operands])
    rw [hvs] at hx
    obtain ⟨ds, he, hs, hv⟩ := hx.tup_
    obtain ⟨y, hy, hyv⟩ := hv _ _ h
    refine ⟨y, .two hyv, fun w' hb => run_v ?_⟩
    simp [he, Instr.extract, hy]
  · rename_i x
    split at h
    case h_2 => cases h
    rename_i ad hvs
    cases h
    have hx := ev x (by simp [Op.operands])
    rw [hvs] at hx
    refine ⟨a.eval x, hx, fun w' hb => ?_⟩
    have hp : ∃ ad', a.eval x = .pointer (some ad') := by
      generalize a.eval x = z at hx
      cases hx with
      | two h => cases h with
        | one h => cases h with
          | plain h => cases h
          | ptr h => exact ⟨_, rfl⟩
    obtain ⟨ad', hp⟩ := hp
    simp [execOp, hp]
  · rename_i t ps
    obtain ⟨v', h1, h2⟩ := xbuild_run (m := m) (parts' := ps.toList.map fun p => (p.1, a.eval p.2)) (by simp) (fun j p hj => by
      rw [List.getElem?_map] at hj ⊢
      cases hq : ps.toList[j]? with
      | none => rw [hq] at hj; cases hj
      | some q =>
        rw [hq] at hj
        cases hj
        refine ⟨_, rfl, rfl, ev q.2 ?_⟩
        simp only [Op.operands, List.mem_toArray, List.mem_map]
        exact ⟨q, List.mem_of_getElem? hq, rfl⟩) h
    refine ⟨v', h1, fun w' hb => run_v ?_⟩
    have := h2 w'
    rw [← this]
    congr 2
    apply Array.toList_inj.1
    simp
  · rename_i f fs cs
    split at h
    case isFalse => cases h
    rename_i hc
    cases h
    rw [Bool.and_eq_true] at hc
    have e1 := v1_map (γ := γ) (α := α) (a := a) (os := fs) (fun x hx => ev x (by simp [Op.operands, hx])) hc.1
    have e2 := v1_map (γ := γ) (α := α) (a := a) (os := cs) (fun x hx => ev x (by simp [Op.operands, hx])) hc.2
    exact ⟨_, .one (.clo e1.1 e2.1 e1.2 e2.2), fun w' _ => by simp [execOp, Instr.makeFunc]⟩
  · rename_i c
    obtain ⟨callee, args, argTypes⟩ := c
    obtain ⟨args⟩ := args
    obtain ⟨argTypes⟩ := argTypes
    simp only at h
    split at h
    · rename_i x t
      obtain ⟨v', h1, h2⟩ := xlen_run (ty := type) (ev x (by simp [Op.operands, Call.operands])) h
      refine ⟨v', h1, fun w' hb => ?_⟩
      simp [execOp, resolve, invoke, builtin, h2]
    · rename_i x y
      have hx := ev x (by simp [Op.operands, Call.operands])
      have hy := ev y (by simp [Op.operands, Call.operands])
      unfold xmin at h
      split at h
      case h_2 => cases h
      rename_i k1 v1 k2 v2 e1 e2
      cases h
      rw [e1] at hx
      rw [e2] at hy
      refine ⟨_, plainV_mk rfl, fun w' hb => ?_⟩
      simp [execOp, resolve, invoke, builtin, Builtin.min_, Builtin.min2, hx.int_, hy.int_]
    · rename_i x y
      have hx := ev x (by simp [Op.operands, Call.operands])
      have hy := ev y (by simp [Op.operands, Call.operands])
      unfold xmax at h
      split at h
      case h_2 => cases h
      rename_i k1 v1 k2 v2 e1 e2
      cases h
      rw [e1] at hx
      rw [e2] at hy
      refine ⟨_, plainV_mk rfl, fun w' hb => ?_⟩
      simp [execOp, resolve, invoke, builtin, Builtin.max_, Builtin.max2, hx.int_, hy.int_]
    · rename_i x t
      have hx := ev x (by simp [Op.operands, Call.operands])
      unfold xcap at h
      split at h
      case h_2 => cases h
      rename_i e hu e1
      cases h
      rw [e1] at hx
      have := hx.eq rfl
      refine ⟨_, plainV_mk rfl, fun w' hb => ?_⟩
      simp [execOp, resolve, invoke, builtin, Builtin.cap_, run_underlying (und_some hu (by simp)), this, goInt]
    · cases h
  · cases h
theorem xread_aq {o : Oper} {v : Value} (hok : o.op.operands.all (okOpd n γ) = true) (h : xread P γ o.op α H = some v) : AQ P nro n γ o α H v :=
  fun m base w a hR hF => xread_ev hR (fun x hx => hF.eval hR (by
    obtain ⟨i, hi, rfl⟩ := Array.mem_iff_getElem.1 hx
    exact (Array.all_eq_true.1 hok) i hi)) h
end
end Go.Proofs.YtjfhdckcjkgjnaaDoor
