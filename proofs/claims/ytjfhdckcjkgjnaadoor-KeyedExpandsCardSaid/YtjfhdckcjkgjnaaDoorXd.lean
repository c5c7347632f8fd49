/-
  Package variables, and arguments behind pointers and slices, as blocks that are only read; a function of them that answers a plain value. Over any program.
-/
import Derived.Test.YtjfhdckcjkgjnaaDoorXk
import Derived.Test.YtjfhdckcjkgjnaaDoorXl
import Derived.Lib.LaidTab
namespace Go.Proofs.YtjfhdckcjkgjnaaDoor
open Go Go.RowKit
set_option linter.unusedVariables false
set_option linter.unusedSimpArgs false

/-- The package variables that are known, by their numbers: the blocks 0, 1, .. . -/
def gam (gs : List Nat) : Nat → Option Nat := fun g => gs.findIdx? (· == g)
theorem eval_func (γ : Nat → Option Nat) (α : Fm) (f : FuncId) : Fm.eval γ α (.func f) = .func (.func f) #[] #[] := rfl
theorem eval_global (γ : Nat → Option Nat) (α : Fm) (g : Nat) : Fm.eval γ α (.global g) = match γ g with | some i => .pointer (some ⟨i, 0, none⟩) | none => undef := rfl

section
variable {P : Program} {nro n base : Nat} {γ : Nat → Option Nat} {m : List Ent} {H : AH} {α : Fm} {a : Act} {w : World} {Q : Value → AH → Prop}

/-- A function that answers a plain value and turns nothing that was there, whatever of it is own: called among others. -/
theorem ac_of_rc {f : FuncId} {args : Array Value} {v : Value} (h : AC P H.length γ f args H (fun v' _ => v' = v)) (hv : plainV v = true) (hq : Q v H) : AC P nro γ f args H Q := by
  intro m base w args' hR hsz hva
  refine (h m w.heap.size w args' hR.freeze hsz hva).mono ?_
  rintro e w' ⟨m', v1, v', H', rfl, _, hv', _, hb, rfl⟩
  exact ⟨m, v1, v1, H, by rw [hv'.eq hv], List.prefix_rfl, plainV_mk hv, hR.below hb, hb.mono hR.base_le, hq⟩
end

section
variable {P : Program} {W : World}
/-- Blocks that were there, and are only read. -/
theorem rel_ro (L : List (Ent × Blk)) (γ : Nat → Option Nat)
    (h : ∀ x ∈ L, x.1.b < W.heap.size ∧ x.1.es = x.2.es ∧ ∃ cs fr, W.heap[x.1.b]? = some (.cells cs x.2.ty fr) ∧ ∀ (j : Nat) (v : Value), x.2.cells[j]? = some v → ∃ y, cs[x.1.o + j]? = some y ∧ V1 (L.map (·.1)) v y)
    (hg : ∀ (g i : Nat), γ g = some i → ∃ e : Ent, (L.map (·.1))[i]? = some e ∧ e.b = g ∧ e.o = 0) :
    Rel L.length W.heap.size γ (L.map (·.1)) (L.map fun x => some x.2) W := by
  have get : ∀ (i : Nat) (e : Ent), (L.map (·.1))[i]? = some e → ∃ x, L[i]? = some x ∧ x ∈ L ∧ e = x.1 := by
    intro i e he
    rw [List.getElem?_map] at he
    cases hx : L[i]? with
    | none => rw [hx] at he; cases he
    | some x => rw [hx] at he; cases he; exact ⟨x, rfl, List.mem_of_getElem? hx, rfl⟩
  refine ⟨by simp, by simp, Nat.le_refl _, fun i e he => ?_, fun i e _ he => ?_, fun i e hi he => ?_, fun i k e hk he => ?_, fun i j ki kj ei ej hi hj _ hki => ?_, hg⟩
  · obtain ⟨x, _, hx, rfl⟩ := get i e he; exact (h x hx).1
  · obtain ⟨x, _, hx, rfl⟩ := get i e he; exact (h x hx).1
  · obtain ⟨x, hx, _, _⟩ := get i e he
    have := (List.getElem?_eq_some_iff.1 hx).1
    omega
  · obtain ⟨x, hx, hm, rfl⟩ := get i e he
    rw [List.getElem?_map, hx] at hk
    cases hk
    obtain ⟨_, h2, cs, fr, h3, h4⟩ := h x hm
    have hi := (List.getElem?_eq_some_iff.1 hx).1
    exact ⟨cs, fr, h3, fun hn => by omega, h2, fun hn => by omega, h4⟩
  · have := (List.getElem?_eq_some_iff.1 hki).1
    simp at this
    omega
/-- A table of integers, as its block. -/
theorem tab_block {name : String} {k : IntKind} {zs : List Int} {g : Nat} (h : Lib.TabIs P W name k zs) (hg : P.globalNamed name = some g) : ∃ t fr, W.heap[g]? = some (.cells (iv k zs).toArray t fr) := by
  unfold Lib.TabIs World.var? at h
  rw [hg] at h
  simp only [Option.bind_some] at h
  split at h
  · rename_i cs t fr hb
    cases h
    exact ⟨t, fr, hb⟩
  · cases h
theorem iv_v1 {m : List Ent} {k : IntKind} {zs : List Int} (j : Nat) (v : Value) (h : (iv k zs)[j]? = some v) : ∃ y, ((iv k zs).toArray)[0 + j]? = some y ∧ V1 m v y := by
  refine ⟨v, by simpa using h, ?_⟩
  unfold iv at h
  rw [List.getElem?_map] at h
  cases hz : zs[j]? with
  | none => rw [hz] at h; cases h
  | some z => rw [hz] at h; cases h; exact .plain rfl
/-- A law's walk, at the world at hand. -/
theorem calls_of_ac {f : FuncId} {args args' : Array Value} {v : Value} {m : List Ent} {H : AH} {γ : Nat → Option Nat} (hR : Rel H.length W.heap.size γ m H W) (hv : plainV v = true) (hs : args'.size = args.size)
    (ha : ∀ (i : Nat) (x : Value), args[i]? = some x → ∃ y, args'[i]? = some y ∧ V m x y) (h : AC P H.length γ f args H (fun v' _ => v' = v)) (hbd : bodied P f = true := by kernel_rfl) (hcl : callable P f = true := by kernel_rfl) : Calls P f args' W fun e W' => e = .returned v ∧ Below W.heap.size W W' := by
  rcases h m W.heap.size W args' hR hs ha with ⟨_, h'⟩ | ⟨v0, hrun, _⟩
  case inr =>
    rw [callable_run hcl hbd] at hrun
    cases hrun
  refine h'.mono ?_
  rintro e w' ⟨m', v1, v', H', rfl, _, hv', _, hb, rfl⟩
  exact ⟨by rw [hv'.eq hv], hb⟩
end
end Go.Proofs.YtjfhdckcjkgjnaaDoor
