/-
  Memory told by lists: blocks that the walk knows, by numbers of their own; the frame as a function. What a piece of code does, said of these alone; and that it then holds of the machine. Over any program.
-/
import Derived.WalkKit
import Derived.Scope
import Derived.Deep.Quiet
import Derived.BigQuiet
import Derived.StillTail
import Derived.Lib.ConvBytes
import Derived.Laws.BytesArg
import Derived.Laws.AppendOwn
import Derived.Laws.StructEq
namespace Go.Proofs.YtjfhdckcjkgjnaaDoor
open Go Go.RowKit
set_option linter.unusedVariables false

/-- Where a block lies: its number in memory, the first cell, how many cells, an element's size where it may grow. -/
structure Ent where
  b : Nat
  o : Nat
  sz : Nat
  es : Option Nat

/-- What a block holds. -/
structure Blk where
  cells : List Value
  ty : TypeId
  es : Option Nat

abbrev AH := List (Option Blk)
abbrev Fm := Nat → Value

/-- One cell's value, with no address in it. -/
def plain1 : Value → Bool
  | .bool _ | .int _ _ | .float _ _ | .complex _ _ _ | .string _ | .pointer none | .slice none _ _ | .map none | .chan none | .nilFunc | .nilIface => true
  | .func (.func _) f c => f.isEmpty && c.isEmpty
  | _ => false

inductive V1 (m : List Ent) : Value → Value → Prop
  | plain {x : Value} (h : plain1 x = true) : V1 m x x
  | ptr {i off : Nat} {e : Ent} (h : m[i]? = some e) : V1 m (.pointer (some ⟨i, off, none⟩)) (.pointer (some ⟨e.b, e.o + off, none⟩))
  | sl {i off len c : Nat} {e : Ent} (h : m[i]? = some e) (hc : len ≤ c) (hs : off = 0 → ∀ s, e.es = some s → c * s = e.sz ∧ c ≤ maxLen) : V1 m (.slice (some ⟨i, off, none⟩) len len) (.slice (some ⟨e.b, e.o + off, none⟩) len c)
  | slv {i off len c : Nat} {e : Ent} (h : m[i]? = some e) (hc : len ≤ c) : V1 m (.slice (some ⟨i, off, none⟩) len (len + 1)) (.slice (some ⟨e.b, e.o + off, none⟩) len c)
  | sl0 {i off c : Nat} {a : Addr} : V1 m (.slice (some ⟨i, off, some 0⟩) 0 0) (.slice (some a) 0 c)
  | clo {f : FuncId} {cs ds es fs : Array Value} (h1 : ds.size = cs.size) (h2 : fs.size = es.size) (h3 : ∀ (i : Nat) (x y : Value), cs[i]? = some x → ds[i]? = some y → V1 m x y) (h4 : ∀ (i : Nat) (x y : Value), es[i]? = some x → fs[i]? = some y → V1 m x y) : V1 m (.func (.func f) cs es) (.func (.func f) ds fs)

inductive V2 (m : List Ent) : Value → Value → Prop
  | one {x y : Value} (h : V1 m x y) : V2 m x y
  | agg {cs ds : Array Value} (hs : ds.size = cs.size) (h : ∀ (i : Nat) (x : Value), cs[i]? = some x → ∃ y, ds[i]? = some y ∧ V1 m x y) : V2 m (.agg cs) (.agg ds)

inductive V (m : List Ent) : Value → Value → Prop
  | two {x y : Value} (h : V2 m x y) : V m x y
  | tup {cs ds : Array Value} (hs : ds.size = cs.size) (h : ∀ (i : Nat) (x : Value), cs[i]? = some x → ∃ y, ds[i]? = some y ∧ V2 m x y) : V m (.tuple cs) (.tuple ds)

theorem pre_get {m m' : List Ent} (h : m <+: m') {i : Nat} {e : Ent} (he : m[i]? = some e) : m'[i]? = some e := by
  obtain ⟨t, rfl⟩ := h
  rw [List.getElem?_append_left (by
    rcases Nat.lt_or_ge i m.length with h | h
    · exact h
    · rw [List.getElem?_eq_none h] at he; cases he)]
  exact he
theorem V1.mono {m m' : List Ent} (h : m <+: m') {x y : Value} (v : V1 m x y) : V1 m' x y := by
  induction v with
  | plain h1 => exact .plain h1
  | ptr h1 => exact .ptr (pre_get h h1)
  | sl h1 h2 h3 => exact .sl (pre_get h h1) h2 h3
  | slv h1 h2 => exact .slv (pre_get h h1) h2
  | sl0 => exact .sl0
  | clo h1 h2 h3 h4 ih3 ih4 => exact .clo h1 h2 ih3 ih4
theorem V2.mono {m m' : List Ent} (h : m <+: m') {x y : Value} (v : V2 m x y) : V2 m' x y := by
  cases v with
  | one h1 => exact .one (h1.mono h)
  | agg h1 h2 => exact .agg h1 fun i x hx => let ⟨y, a, b⟩ := h2 i x hx; ⟨y, a, b.mono h⟩
theorem V.mono {m m' : List Ent} (h : m <+: m') {x y : Value} (v : V m x y) : V m' x y := by
  cases v with
  | two h1 => exact .two (h1.mono h)
  | tup h1 h2 => exact .tup h1 fun i x hx => let ⟨y, a, b⟩ := h2 i x hx; ⟨y, a, b.mono h⟩

/-- A value with no address in it, whole. -/
def plain2 : Value → Bool
  | .agg cs => cs.all plain1
  | x => plain1 x
def plainV : Value → Bool
  | .tuple vs => vs.all plain2
  | x => plain2 x
theorem V1.eq {m : List Ent} {x y : Value} (v : V1 m x y) (h : plain1 x = true) : y = x := by
  cases v with
  | plain _ => rfl
  | ptr _ => cases h
  | sl _ _ _ => cases h
  | slv _ _ => cases h
  | sl0 => cases h
  | clo h1 h2 _ _ =>
    simp only [plain1, Bool.and_eq_true, Array.isEmpty_iff] at h
    obtain ⟨rfl, rfl⟩ := h
    have e1 := Array.eq_empty_of_size_eq_zero h1
    have e2 := Array.eq_empty_of_size_eq_zero h2
    subst e1 e2
    rfl
theorem V2.eq {m : List Ent} {x y : Value} (v : V2 m x y) (h : plain2 x = true) : y = x := by
  cases v with
  | one h1 =>
    cases h1 with
    | plain _ => rfl
    | ptr _ => cases h
    | sl _ _ _ => cases h
    | slv _ _ => cases h
    | sl0 => cases h
    | clo h1 h2 h3 h4 => exact V1.eq (.clo h1 h2 h3 h4) h
  | @agg cs ds hs h1 =>
    have h : cs.all plain1 = true := h
    rw [Array.all_eq_true] at h
    congr 1
    apply Array.ext_getElem?
    intro i
    cases hx : cs[i]? with
    | none => rw [Array.getElem?_eq_none_iff] at hx ⊢; omega
    | some x =>
      obtain ⟨y, hy, hv⟩ := h1 i x hx
      obtain ⟨hi, he⟩ := Array.getElem?_eq_some_iff.1 hx
      have h2 : plain1 x = true := by rw [← he]; exact h i hi
      rw [hy, hv.eq h2]
theorem V.eq {m : List Ent} {x y : Value} (v : V m x y) (h : plainV x = true) : y = x := by
  cases v with
  | two h1 =>
    refine h1.eq ?_
    cases x with
    | tuple vs => cases h1 with | one h2 => cases h2 with | plain h3 => cases h3
    | _ => exact h
  | @tup cs ds hs h1 =>
    have h : cs.all plain2 = true := h
    rw [Array.all_eq_true] at h
    congr 1
    apply Array.ext_getElem?
    intro i
    cases hx : cs[i]? with
    | none => rw [Array.getElem?_eq_none_iff] at hx ⊢; omega
    | some x =>
      obtain ⟨y, hy, hv⟩ := h1 i x hx
      obtain ⟨hi, he⟩ := Array.getElem?_eq_some_iff.1 hx
      have h2 : plain2 x = true := by rw [← he]; exact h i hi
      rw [hy, hv.eq h2]
theorem V.one {m : List Ent} {x y : Value} (h : V1 m x y) : V m x y := .two (.one h)
theorem plain2_mk {m : List Ent} {x : Value} (h : plain2 x = true) : V2 m x x := by
  cases x with
  | agg cs =>
    have h : cs.all plain1 = true := h
    rw [Array.all_eq_true] at h
    exact .agg rfl fun i x hx => by
      obtain ⟨hi, he⟩ := Array.getElem?_eq_some_iff.1 hx
      have h2 : plain1 x = true := by rw [← he]; exact h i hi
      exact ⟨x, hx, .plain h2⟩
  | _ => exact .one (.plain h)
theorem plainV_mk {m : List Ent} {x : Value} (h : plainV x = true) : V m x x := by
  cases x with
  | tuple vs =>
    have h : vs.all plain2 = true := h
    rw [Array.all_eq_true] at h
    exact .tup rfl fun i x hx => by
      obtain ⟨hi, he⟩ := Array.getElem?_eq_some_iff.1 hx
      have h2 : plain2 x = true := by rw [← he]; exact h i hi
      exact ⟨x, hx, plain2_mk h2⟩
  | _ => exact .two (plain2_mk h)

def Fm.put (α : Fm) (d : Option Tmp) (v : Value) : Fm := match d with | none => α | some d => fun i => if i = d then v else α i
def Fm.eval (γ : Nat → Option Nat) (α : Fm) : Operand → Value
  | .tmp t => α t
  | .const v => v
  | .global g => match γ g with | some i => .pointer (some ⟨i, 0, none⟩) | none => undef
  | .func f => .func (.func f) #[] #[]
/-- An operand that is told rightly. -/
def okOpd (n : Nat) (γ : Nat → Option Nat) : Operand → Bool
  | .tmp t => decide (t < n)
  | .const v => plainV v
  | .global g => (γ g).isSome
  | .func _ => true

/-- The blocks as they lie in a world: those below number nro are only read, the others lie from base on, each by itself. -/
structure Rel (nro base : Nat) (γ : Nat → Option Nat) (m : List Ent) (H : AH) (w : World) : Prop where
  len : m.length = H.length
  le : nro ≤ H.length
  base_le : base ≤ w.heap.size
  inb : ∀ (i : Nat) (e : Ent), m[i]? = some e → e.b < w.heap.size
  ro : ∀ (i : Nat) (e : Ent), i < nro → m[i]? = some e → e.b < base
  own : ∀ (i : Nat) (e : Ent), nro ≤ i → m[i]? = some e → base ≤ e.b ∧ e.o = 0
  cells : ∀ (i : Nat) (k : Blk) (e : Ent), H[i]? = some (some k) → m[i]? = some e → ∃ cs fr, w.heap[e.b]? = some (.cells cs k.ty fr) ∧ (nro ≤ i → cs.size = e.sz) ∧ e.es = k.es ∧
    (nro ≤ i → (∀ o, o < cs.size → ¬ (fr.1 ≤ o ∧ o < fr.2)) ∧ (k.es.isSome = true → fr = (0, 0))) ∧ ∀ (j : Nat) (x : Value), k.cells[j]? = some x → ∃ y, cs[e.o + j]? = some y ∧ V1 m x y
  apart : ∀ (i j : Nat) (ki kj : Blk) (ei ej : Ent), nro ≤ i → nro ≤ j → i ≠ j → H[i]? = some (some ki) → H[j]? = some (some kj) → m[i]? = some ei → m[j]? = some ej → ei.b ≠ ej.b
  glob : ∀ (g i : Nat), γ g = some i → ∃ e : Ent, m[i]? = some e ∧ e.b = g ∧ e.o = 0

structure FR (n : Nat) (m : List Ent) (α : Fm) (a : Act) : Prop where
  defers : a.defers = []
  size : a.tmps.size = n
  val : ∀ i, i < n → V m (α i) (a.tmps.getD i undef)

section
variable {P : Program} {nro n base : Nat} {γ : Nat → Option Nat} {m : List Ent} {H : AH} {α : Fm} {a : Act} {w : World}

theorem FR.mono (h : FR n m α a) {m' : List Ent} (hm : m <+: m') : FR n m' α a := ⟨h.defers, h.size, fun i hi => (h.val i hi).mono hm⟩
theorem FR.eval (h : FR n m α a) (hR : Rel nro base γ m H w) {x : Operand} (hx : okOpd n γ x = true) : V m (α.eval γ x) (a.eval x) := by
  cases x with
  | tmp t => exact h.val t (by simpa [okOpd] using hx)
  | const v => exact plainV_mk hx
  | global g =>
    simp only [okOpd] at hx
    obtain ⟨i, hi⟩ := Option.isSome_iff_exists.1 hx
    obtain ⟨e, h1, h2, h3⟩ := hR.glob g i hi
    have h4 : α.eval γ (.global g) = .pointer (some ⟨i, 0, none⟩) := by simp [Fm.eval, hi]
    have h5 : a.eval (.global g) = .pointer (some ⟨e.b, e.o + 0, none⟩) := by simp [Act.eval, h2, h3]
    rw [h4, h5]
    exact .one (.ptr h1)
  | func f => exact .one (.plain rfl)
theorem FR.put (h : FR n m α a) {d : Option Tmp} {v v' : Value} (hv : V m v v') : FR n m (α.put d v) (a.put d v') := by
  cases d with
  | none => exact h
  | some d =>
    refine ⟨h.defers, by simp [Act.put, h.size], fun i hi => ?_⟩
    simp only [Fm.put, Act.put]
    have hi' : i < a.tmps.size := by rw [h.size]; exact hi
    by_cases e : i = d
    · subst e; simp [hi', hv]
    · rw [if_neg e]
      have := h.val i hi
      simpa [hi', Array.getElem_setIfInBounds, Ne.symm e] using this

theorem Rel.below (h : Rel nro base γ m H w) {w' : World} (hb : Below w.heap.size w w') : Rel nro base γ m H w' :=
  ⟨h.len, h.le, Nat.le_trans h.base_le hb.size, fun i e he => Nat.lt_of_lt_of_le (h.inb i e he) hb.size, h.ro, h.own,
   fun i k e hk he => by
     obtain ⟨cs, fr, h1, h2⟩ := h.cells i k e hk he
     exact ⟨cs, fr, (hb.block _ (h.inb i e he)).trans h1, h2⟩, h.apart, h.glob⟩
theorem Rel.drewN (h : Rel nro base γ m H w) (q : Nat) : Rel nro base γ m H (w.drewN q) := ⟨h.len, h.le, h.base_le, h.inb, h.ro, h.own, h.cells, h.apart, h.glob⟩

/-- A piece of code's end, told. -/
def Con (nro n : Nat) (γ : Nat → Option Nat) (m0 : List Ent) (base : Nat) (w0 : World) (Q : Exit → Fm → AH → Prop) : Exit → Act → World → Prop :=
  fun e a w => ∃ m α H, m0 <+: m ∧ Rel nro base γ m H w ∧ FR n m α a ∧ Below base w0 w ∧ Q e α H
theorem Con.trans {m0 : List Ent} {w0 : World} {Q : Exit → Fm → AH → Prop} {e : Exit} {a' : Act} {w' : World} (hm : m0 <+: m) (hb : Below base w0 w) (h : Con nro n γ m base w Q e a' w') : Con nro n γ m0 base w0 Q e a' w' :=
  let ⟨m', α', H', h1, h2, h3, h4, h5⟩ := h
  ⟨m', α', H', hm.trans h1, h2, h3, hb.trans h4, h5⟩
theorem Con.imp {w0 : World} {Q Q' : Exit → Fm → AH → Prop} {e : Exit} {m0 : List Ent} (h : Con nro n γ m0 base w0 Q e a w) (hq : ∀ e α H, Q e α H → Q' e α H) : Con nro n γ m0 base w0 Q' e a w :=
  let ⟨m', α', H', h1, h2, h3, h4, h5⟩ := h
  ⟨m', α', H', h1, h2, h3, h4, hq _ _ _ h5⟩

/-- A piece of code, told. -/
def AW (P : Program) (nro n : Nat) (γ : Nat → Option Nat) (c : Code) (Q : Exit → Fm → AH → Prop) (α : Fm) (H : AH) : Prop :=
  ∀ m base w a, Rel nro base γ m H w → FR n m α a → c.wp P (Con nro n γ m base w Q) a w
def thenQ (N : Fm → AH → Prop) (Q : Exit → Fm → AH → Prop) : Exit → Fm → AH → Prop
  | .normal => N
  | e => Q e
def inBlockQ (id : Nat) (Q : Exit → Fm → AH → Prop) : Exit → Fm → AH → Prop
  | .exit id' => if id' = id then Q .normal else Q (.exit id')
  | e => Q e

variable {Q : Exit → Fm → AH → Prop}
theorem AW.mono {c : Code} {Q' : Exit → Fm → AH → Prop} (h : AW P nro n γ c Q α H) (hq : ∀ e α H, Q e α H → Q' e α H) : AW P nro n γ c Q' α H :=
  fun m base w a hR hF => Code.wp_mono (fun _ _ _ hc => hc.imp hq) (h m base w a hR hF)
/-- What stands between two pieces, told anew. -/
theorem aw_cut {c : Code} {N : Fm → AH → Prop} (M : Fm → AH → Prop) (h : AW P nro n γ c (thenQ M Q) α H) (k : ∀ α H, M α H → N α H) : AW P nro n γ c (thenQ N Q) α H :=
  h.mono fun e α H hq => by
    cases e with
    | normal => exact k _ _ hq
    | _ => exact hq
theorem aw_seq {x y : Code} (h : AW P nro n γ x (thenQ (fun α H => AW P nro n γ y Q α H) Q) α H) : AW P nro n γ (.seq x y) Q α H := by
  intro m base w a hR hF
  refine wp_seq (Code.wp_mono ?_ (h m base w a hR hF))
  rintro e a' w' ⟨m', α', H', hm, hR', hF', hb, hq⟩
  cases e with
  | normal => exact Code.wp_mono (fun _ _ _ hc => hc.trans hm hb) (hq m' base w' a' hR' hF')
  | _ => exact ⟨m', α', H', hm, hR', hF', hb, hq⟩
theorem aw_skip (h : Q .normal α H) : AW P nro n γ .skip Q α H := fun m base w _ hR hF => wp_skip ⟨m, α, H, List.prefix_rfl, hR, hF, .refl _ _, h⟩
theorem aw_ret (h : Q .ret α H) : AW P nro n γ .ret Q α H := fun m base w _ hR hF => wp_ret ⟨m, α, H, List.prefix_rfl, hR, hF, .refl _ _, h⟩
theorem aw_exit {id : Nat} (h : Q (.exit id) α H) : AW P nro n γ (.exit id) Q α H := fun m base w _ hR hF => wp_exit ⟨m, α, H, List.prefix_rfl, hR, hF, .refl _ _, h⟩
theorem aw_label {l : Nat} (h : Q .normal α H) : AW P nro n γ (.label l) Q α H := fun m base w _ hR hF => wp_label ⟨m, α, H, List.prefix_rfl, hR, hF, .refl _ _, h⟩
theorem aw_cond {c : Operand} {x y : Code} {t : Bool} (hc : α.eval γ c = .bool t) (ho : okOpd n γ c = true) (h : AW P nro n γ (if t then x else y) Q α H) : AW P nro n γ (.cond c x y) Q α H := by
  intro m base w a hR hF
  have hv := hF.eval hR ho
  rw [hc] at hv
  exact wp_cond (hv.eq rfl) (h m base w a hR hF)
/-- A scope through which the run goes without a jump. -/
def scopeQ (Q : Exit → Fm → AH → Prop) : Exit → Fm → AH → Prop
  | .goto _ => fun _ _ => False
  | e => Q e
theorem aw_scope {c : Code} (h : AW P nro n γ c (scopeQ Q) α H) : AW P nro n γ (.scope c) Q α H := by
  intro m base w a hR hF
  refine wp_scope_straight (Code.wp_mono ?_ (h m base w a hR hF))
  rintro e a' w' ⟨m', α', H', hm, hR', hF', hb, hq⟩
  cases e with
  | goto l => exact hq
  | _ => exact ⟨m', α', H', hm, hR', hF', hb, hq⟩
theorem aw_block {id : Nat} {c : Code} (h : AW P nro n γ c (inBlockQ id Q) α H) : AW P nro n γ (.block id c) Q α H := by
  intro m base w a hR hF
  refine wp_block (Code.wp_mono ?_ (h m base w a hR hF))
  rintro e a' w' ⟨m', α', H', hm, hR', hF', hb, hq⟩
  cases e with
  | exit id' =>
    simp only [Exit.inBlock, inBlockQ] at hq ⊢
    split
    · rename_i hid; rw [if_pos hid] at hq; exact ⟨m', α', H', hm, hR', hF', hb, hq⟩
    · rename_i hid; rw [if_neg hid] at hq; exact ⟨m', α', H', hm, hR', hF', hb, hq⟩
  | _ => exact ⟨m', α', H', hm, hR', hF', hb, hq⟩

/-- The least number with a property. -/
theorem least {p : Nat → Prop} (h : ∃ k, p k) : ∃ k, p k ∧ ∀ j, j < k → ¬ p j := by
  obtain ⟨k, hk⟩ := h
  induction k using Nat.strongRecOn with
  | _ k ih =>
    by_cases h : ∃ j, j < k ∧ p j
    · obtain ⟨j, hj, hp⟩ := h; exact ih j hj hp
    · exact ⟨k, hk, fun j hj hp => h ⟨j, hj, hp⟩⟩
theorem leastOf (p : Act → World → Nat → Prop) : ∃ f : Act → World → Nat, ∀ a w, (∃ k, p a w k) → p a w (f a w) ∧ ∀ j, p a w j → f a w ≤ j := by
  have h : ∀ a w, ∃ n, (∃ k, p a w k) → p a w n ∧ ∀ j, p a w j → n ≤ j := by
    intro a w
    by_cases h : ∃ k, p a w k
    · obtain ⟨k, h1, h2⟩ := least h
      exact ⟨k, fun _ => ⟨h1, fun j hj => by
        rcases Nat.lt_or_ge j k with hlt | hge
        · exact absurd hj (h2 j hlt)
        · exact hge⟩⟩
    · exact ⟨0, fun hh => absurd hh h⟩
  exact ⟨fun a w => (h a w).choose, fun a w => (h a w).choose_spec⟩

theorem aw_loop {c : Code} (I : Nat → Fm → AH → Prop) (k0 : Nat) (h0 : I k0 α H)
    (round : ∀ k α H, I k α H → AW P nro n γ c (thenQ (fun α' H' => ∃ k', k' < k ∧ I k' α' H') Q) α H) : AW P nro n γ (.loop c) Q α H := by
  intro m base w a hR hF
  let J (k : Nat) (a' : Act) (w' : World) : Prop := ∃ m' α' H', m <+: m' ∧ Rel nro base γ m' H' w' ∧ FR n m' α' a' ∧ Below base w w' ∧ I k α' H'
  obtain ⟨μ, hμ⟩ := leastOf (fun a' w' k => J k a' w')
  refine wp_loop (fun a' w' => ∃ k, J k a' w') μ ⟨k0, m, α, H, List.prefix_rfl, hR, hF, .refl _ _, h0⟩ ?_
  intro a1 w1 hex
  obtain ⟨⟨m1, α1, H1, hm1, hR1, hF1, hb1, hi1⟩, _⟩ := hμ a1 w1 hex
  refine Code.wp_mono ?_ (round _ α1 H1 hi1 m1 base w1 a1 hR1 hF1)
  rintro e a2 w2 ⟨m2, α2, H2, hm2, hR2, hF2, hb2, hq⟩
  cases e with
  | normal =>
    obtain ⟨k', hlt, hi'⟩ := hq
    have hJ : J k' a2 w2 := ⟨m2, α2, H2, hm1.trans hm2, hR2, hF2, hb1.trans hb2, hi'⟩
    exact ⟨⟨k', hJ⟩, Nat.lt_of_le_of_lt ((hμ a2 w2 ⟨k', hJ⟩).2 k' hJ) hlt⟩
  | _ => exact ⟨m2, α2, H2, hm1.trans hm2, hR2, hF2, hb1.trans hb2, hq⟩

/-- Operations in their order. -/
def AL (P : Program) (nro n : Nat) (γ : Nat → Option Nat) (ops : Array Oper) (Q : Exit → Fm → AH → Prop) (l : List Oper) (α : Fm) (H : AH) : Prop :=
  ∀ m base w a, Rel nro base γ m H w → FR n m α a → wpList P ops (Con nro n γ m base w Q) l a w
theorem aw_region {id : Nat} {l : List Oper} (h : AL P nro n γ l.toArray Q l α H) : AW P nro n γ (.region id l.toArray false) Q α H :=
  fun m base w a hR hF => wp_region_lit (h m base w a hR hF)
theorem wpList_mono {ops : Array Oper} {Q' Q'' : Exit → Act → World → Prop} (hq : ∀ e a w, Q' e a w → Q'' e a w) : ∀ (l : List Oper) (a : Act) (w : World), wpList P ops Q' l a w → wpList P ops Q'' l a w
  | [], a, w, h => hq _ _ _ h
  | o :: l, a, w, h => by
    unfold wpList at h ⊢
    have hout : LetsOut Q' → LetsOut Q'' := fun ⟨a, w, h⟩ => ⟨a, w, hq _ _ _ h⟩
    split
    · rename_i hw
      rw [if_pos hw] at h
      refine h.imp (fun h => ?_) (fun h => ⟨h.1, hout h.2⟩)
      unfold Oper.wp at h ⊢
      generalize (execOp a.eval o).run P w = r at *
      cases r with
      | ok x w' =>
        cases x <;> simp only [Oper.upon] at h ⊢ <;>
          first
            | exact wpList_mono hq l _ _ h
            | exact Calls.mono h (fun e w'' he => by cases e <;> first | exact wpList_mono hq l _ _ he | exact hq _ _ _ he | exact hout he)
            | exact Go.Rows.mono h (fun _ _ he => wpList_mono hq l _ _ he)
      | halt x w' => cases x <;> simp only [Oper.upon] at h ⊢ <;> first | exact hq _ _ _ h | exact h
    · rename_i hw
      rw [if_neg hw] at h
      exact wpList_mono hq l _ _ h

variable {ops : Array Oper} {rest : List Oper} {o : Oper}
theorem al_nil (h : Q .normal α H) : AL P nro n γ ops Q [] α H := fun m _ _ _ hR hF => ⟨m, α, H, List.prefix_rfl, hR, hF, .refl _ _, h⟩

/-- One operation that yields a value. -/
def AV (P : Program) (nro n : Nat) (γ : Nat → Option Nat) (o : Oper) (α : Fm) (H : AH) (v : Value) (H' : AH) : Prop :=
  ∀ m base w a, Rel nro base γ m H w → FR n m α a → ∃ m' x w' v', (execOp a.eval o).run P w = .ok x w' ∧ (x = .value v' ∨ x = .skip ∧ v' = undef) ∧ m <+: m' ∧ V m' v v' ∧ Rel nro base γ m' H' w' ∧ Below base w w'
/-- One that only reads. -/
def AQ (P : Program) (nro n : Nat) (γ : Nat → Option Nat) (o : Oper) (α : Fm) (H : AH) (v : Value) : Prop :=
  ∀ m base w a, Rel nro base γ m H w → FR n m α a → ∃ v', V m v v' ∧ ∀ w', Below w.heap.size w w' → (execOp a.eval o).run P w' = .ok (.value v') w'
theorem AQ.av {v : Value} (h : AQ P nro n γ o α H v) : AV P nro n γ o α H v H := fun m base w a hR hF =>
  let ⟨v', h1, h2⟩ := h m base w a hR hF
  ⟨m, _, w, v', h2 w (.refl _ _), .inl rfl, List.prefix_rfl, h1, hR, .refl _ _⟩

/-- What a guard's value says. -/
def wb (v : Value) (want : Bool) : Option Bool :=
  match v with
  | .bool b => some (b == want)
  | .tuple _ => some false
  | _ => none
theorem wb_bool (b want : Bool) : wb (.bool b) want = some (b == want) := rfl
theorem wb_undef (want : Bool) : wb undef want = some false := rfl
/-- Does an operation run, by its guard? -/
def wantedA (ops : Array Oper) (n : Nat) (α : Fm) (o : Oper) : Option Bool :=
  match o.guard with
  | none => some true
  | some (j, want) =>
    match (ops[j]?).bind (·.dst) with
    | some d => if d < n then wb (α d) want else none
    | none => none
theorem wantedA_spec (hF : FR n m α a) {b : Bool} (h : wantedA ops n α o = some b) : Region.wanted o (yielded ops a.tmps) = b := by
  unfold wantedA at h
  unfold Region.wanted
  cases hg : o.guard with
  | none => rw [hg] at h; exact Option.some.inj h
  | some jw =>
    obtain ⟨j, want⟩ := jw
    rw [hg] at h
    show (yielded ops a.tmps j == some want) = b
    unfold yielded
    cases hd : (ops[j]?).bind (·.dst) with
    | none => simp only [hd] at h; cases h
    | some d =>
      simp only [hd] at h
      by_cases hn : d < n
      · rw [if_pos hn] at h
        have hv := hF.val d hn
        have hget : a.tmps[d]? = some (a.tmps.getD d undef) := by
          have : d < a.tmps.size := by rw [hF.size]; exact hn
          simp [this]
        unfold wb at h
        split at h
        · rename_i b' hb
          rw [hb] at hv
          have h1 := hv.eq rfl
          have h3 : (some d).bind (fun x => a.tmps[x]?) = some (.bool b') := by show a.tmps[d]? = _; rw [hget, h1]
          rw [h3]
          simp only [Option.some.injEq] at h
          rw [← h]
          simp
        · rename_i vs hb
          rw [hb] at hv
          have h1 : ∃ ds, a.tmps.getD d undef = .tuple ds := by
            generalize a.tmps.getD d undef = y at hv
            cases hv with
            | two h => cases h with | one h => cases h with | plain h => cases h
            | tup _ _ => exact ⟨_, rfl⟩
          obtain ⟨ds, h1⟩ := h1
          have h3 : (some d).bind (fun x => a.tmps[x]?) = some (.tuple ds) := by show a.tmps[d]? = _; rw [hget, h1]
          rw [h3]
          simp only [Option.some.injEq] at h
          rw [← h]
          rfl
        · cases h
      · rw [if_neg hn] at h; cases h
theorem plainV_undef : plainV undef = true := by simp [plainV, undef]
theorem al_step {v : Value} {H' : AH} (hw : wantedA ops n α o = some true) (h : AV P nro n γ o α H v H') (hr : AL P nro n γ ops Q rest (α.put o.dst v) H') : AL P nro n γ ops Q (o :: rest) α H := by
  intro m base w a hR hF
  obtain ⟨m', x, w', v', h1, h2, h3, h4, h5, h6⟩ := h m base w a hR hF
  unfold wpList
  rw [wantedA_spec hF hw]
  simp only [if_true]
  refine .inl ?_
  unfold Oper.wp
  rw [h1]
  have hgo := hr m' base w' (a.put o.dst v') h5 ((hF.mono h3).put h4)
  rcases h2 with rfl | ⟨rfl, rfl⟩
  · exact wpList_mono (fun e a w hc => hc.trans h3 h6) _ _ _ hgo
  · exact wpList_mono (fun e a w hc => hc.trans h3 h6) _ _ _ hgo
theorem al_pass (hw : wantedA ops n α o = some false) (hr : AL P nro n γ ops Q rest (α.put o.dst undef) H) : AL P nro n γ ops Q (o :: rest) α H := by
  intro m base w a hR hF
  unfold wpList
  rw [wantedA_spec hF hw]
  simp only [Bool.false_eq_true, if_false]
  exact hr m base w _ hR (hF.put (plainV_mk plainV_undef))

/-- Has this function a body? -/
def bodied (P : Program) (f : FuncId) : Bool :=
  match P.funcs[f]? with
  | some fn => fn.body.isSome
  | none => false
/-- What a call comes to: a body's walk, or at once a value of the machine's own. -/
def CallsX (P : Program) (f : FuncId) (args : Array Value) (w : World) (R : Ending → World → Prop) : Prop :=
  (bodied P f = true ∧ Calls P f args w R) ∨ ∃ v, (callFunc f args).run P w = .ok (.value v) w ∧ R (.returned v) w
theorem CallsX.mono {f : FuncId} {args : Array Value} {w : World} {R R' : Ending → World → Prop} (h : CallsX P f args w R) (hr : ∀ e w', R e w' → R' e w') : CallsX P f args w R' := by
  rcases h with ⟨h1, h2⟩ | ⟨v, h1, h2⟩
  · exact .inl ⟨h1, h2.mono hr⟩
  · exact .inr ⟨v, h1, hr _ _ h2⟩
/-- A function, told: whatever memory it is called in. -/
def AC (P : Program) (nro : Nat) (γ : Nat → Option Nat) (f : FuncId) (args : Array Value) (H : AH) (Q : Value → AH → Prop) : Prop :=
  ∀ m base w args', Rel nro base γ m H w → args'.size = args.size → (∀ (i : Nat) (x : Value), args[i]? = some x → ∃ y, args'[i]? = some y ∧ V m x y) →
    CallsX P f args' w fun e w' => ∃ m' v v' H', e = .returned v' ∧ m <+: m' ∧ V m' v v' ∧ Rel nro base γ m' H' w' ∧ Below base w w' ∧ Q v H'
/-- A function of plain values: its value, and nothing turned that was there. -/
def VC (P : Program) (f : FuncId) (args : Array Value) (v : Value) : Prop := ∀ w, CallsX P f args w fun e w' => e = .returned v ∧ Below w.heap.size w w'
theorem AC.mono {f : FuncId} {args : Array Value} {Q Q' : Value → AH → Prop} (h : AC P nro γ f args H Q) (hq : ∀ v H, Q v H → Q' v H) : AC P nro γ f args H Q' :=
  fun m base w args' hR h1 h2 => (h m base w args' hR h1 h2).mono fun _ _ ⟨m', v, v', H', a, b, c, d, e, f⟩ => ⟨m', v, v', H', a, b, c, d, e, hq _ _ f⟩

/-- Results, told. -/
def resA (γ : Nat → Option Nat) (load : TypeId → Value → Option Value) (α : Fm) : List ResultVar → Option (List Value)
  | [] => some []
  | .tmp t :: r => (resA γ load α r).map (α t :: ·)
  | .cell d t :: r => match load t (α d), resA γ load α r with | some v, some l => some (v :: l) | _, _ => none
end
end Go.Proofs.YtjfhdckcjkgjnaaDoor
