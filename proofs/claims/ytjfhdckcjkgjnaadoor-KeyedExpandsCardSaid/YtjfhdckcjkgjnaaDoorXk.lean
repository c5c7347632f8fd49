/-
  A region whose order is drawn, that only reads, with calls that read memory. Over any program.
-/
import Derived.Test.YtjfhdckcjkgjnaaDoorXp
namespace Go.Proofs.YtjfhdckcjkgjnaaDoor
open Go Go.RowKit
set_option linter.unusedVariables false
set_option linter.unusedSimpArgs false

def QM (P : Program) (n : Nat) (γ : Nat → Option Nat) (ops : Array Oper) (Q : Fm → Prop) (H : AH) : List Oper → Fm → Prop
  | [], α => Q α
  | o :: rest, α =>
    match stepQ P γ (wantedA ops n α o) o.op α H with
    | .val v _ => QM P n γ ops Q H rest (α.put o.dst v)
    | .call f args => callable P f = true ∧ ∃ v, AC P H.length γ f args H (fun v' _ => v' = v) ∧ plainV v = true ∧ QM P n γ ops Q H rest (α.put o.dst v)
    | .no => False
def QMc (P : Program) (n : Nat) (γ : Nat → Option Nat) (ops : Array Oper) (Q : Fm → Prop) (H : AH) (r : St) (d : Option Tmp) (rest : List Oper) (α : Fm) : Prop :=
  match r with
  | .val v _ => QM P n γ ops Q H rest (α.put d v)
  | .call f args => callable P f = true ∧ ∃ v, AC P H.length γ f args H (fun v' _ => v' = v) ∧ plainV v = true ∧ QM P n γ ops Q H rest (α.put d v)
  | .no => False
section
variable {P : Program} {nro n base : Nat} {γ : Nat → Option Nat} {m : List Ent} {H : AH} {α : Fm} {a : Act} {w : World} {Q : Exit → Fm → AH → Prop}
theorem QM_nil {ops : Array Oper} {K : Fm → Prop} : QM P n γ ops K H [] α = K α := rfl
theorem QM_cons {ops : Array Oper} {K : Fm → Prop} (o : Oper) (rest : List Oper) : QM P n γ ops K H (o :: rest) α = QMc P n γ ops K H (stepQ P γ (wantedA ops n α o) o.op α H) o.dst rest α := by
  unfold QMc
  rw [QM]
theorem QMc_val {ops : Array Oper} {K : Fm → Prop} (v : Value) (H' : AH) (d : Option Tmp) (rest : List Oper) : QMc P n γ ops K H (.val v H') d rest α = QM P n γ ops K H rest (α.put d v) := rfl
theorem QMc_call {ops : Array Oper} {K : Fm → Prop} {f : FuncId} {args : Array Value} {d : Option Tmp} {rest : List Oper} {v : Value} (h1 : callable P f = true) (h2 : AC P H.length γ f args H (fun v' _ => v' = v)) (h3 : plainV v = true)
    (h4 : QM P n γ ops K H rest (α.put d v)) : QMc P n γ ops K H (.call f args) d rest α := ⟨h1, v, h2, h3, h4⟩
theorem Rel.freeze (h : Rel nro base γ m H w) : Rel H.length w.heap.size γ m H w :=
  ⟨h.len, Nat.le_refl _, Nat.le_refl _, h.inb, fun i e _ he => h.inb i e he, fun i e hi he => by
    have := (List.getElem?_eq_some_iff.1 he).1
    rw [h.len] at this; omega,
   fun i k e hk he => by
    obtain ⟨cs, fr, h1, h2, h3, h4, h5⟩ := h.cells i k e hk he
    have hi := (List.getElem?_eq_some_iff.1 hk).1
    exact ⟨cs, fr, h1, fun hn => by omega, h3, fun hn => by omega, h5⟩,
   fun i j ki kj ei ej hi hj _ hki => by
    have := (List.getElem?_eq_some_iff.1 hki).1
    omega, h.glob⟩
theorem QM.sound {ops : Array Oper} {Q : Fm → Prop} {K : Act → Prop} (hR : Rel nro base γ m H w) (hK : ∀ a α, FR n m α a → Q α → K a) : ∀ (l : List Oper) (α : Fm) (a : Act), okL n γ l = true → FR n m α a → QM P n γ ops Q H l α →
    wpQuiet P ops (fun w' => Below w.heap.size w w') K l a
  | [], α, a, _, hF, h => hK a α hF h
  | o :: rest, α, a, hok, hF, h => by
    simp only [okL, List.all_cons, Bool.and_eq_true] at hok
    rw [QM_cons] at h
    unfold wpQuiet
    cases hw : wantedA ops n α o with
    | none => rw [hw] at h; exact h.elim
    | some b =>
      rw [hw] at h
      rw [wantedA_spec hF hw]
      cases b with
      | false =>
        simp only [Bool.false_eq_true, if_false]
        exact QM.sound hR hK rest _ _ hok.2 (hF.put (plainV_mk plainV_undef)) h
      | true =>
        simp only [if_true]
        rw [stepQ_t] at h
        cases hc : calleeOf γ α o.op with
        | some c =>
          obtain ⟨f, args⟩ := c
          rw [hc, stepQC_s] at h
          obtain ⟨hcal, v, hac, hpl, hrest⟩ := h
          obtain ⟨xs, ts, ho, rfl⟩ := callee_ops hc
          have hxs : xs.all (okOpd n γ) = true := by
            have := hok.1
            rw [ho] at this
            rw [Array.all_eq_true] at this ⊢
            intro i hi
            have := this (i + 1) (by simp [Op.operands, Call.operands]; omega)
            simpa [Op.operands, Call.operands, Array.getElem_append] using this
          obtain ⟨h1, h2⟩ := args_rel hR hF hxs
          refine ⟨v, fun w' hb => ?_, QM.sound hR hK rest _ _ hok.2 (hF.put (plainV_mk hpl)) hrest⟩
          unfold Oper.quietAt
          rcases hac m w'.heap.size w' _ (hR.below hb).freeze h1 h2 with ⟨hbd, hac'⟩ | ⟨v0, hrun, m', v1, v', H', he, _, hv, _, hb', rfl⟩
          · rw [call_run ho hcal hbd]
            refine ⟨rfl, hac'.mono ?_⟩
            rintro e w'' ⟨m', v1, v', H', rfl, _, hv, _, hb', rfl⟩
            exact ⟨by rw [hv.eq hpl], hb.trans (hb'.mono hb.size)⟩
          · cases he
            rw [call_runV ho hrun, hv.eq hpl]
            exact ⟨rfl, rfl⟩
        | none =>
          rw [hc, stepQC_n] at h
          cases hx : xread P γ o.op α H with
          | none => rw [hx] at h; exact h.elim
          | some v =>
            rw [hx, stepQX_s, QMc_val] at h
            obtain ⟨v', h1, h2⟩ := xread_aq hok.1 hx m base w a hR hF
            refine ⟨v', fun w' hb => ?_, QM.sound hR hK rest _ _ hok.2 (hF.put h1) h⟩
            unfold Oper.quietAt
            rw [h2 w' hb]
            exact ⟨rfl, rfl⟩
/-- A region whose order is drawn, and which only reads, calls among it. -/
theorem aw_quietM {id : Nat} {l : List Oper} (hm : P.follows .mixedOrders = true) (hB : Region.lexB .any l.toArray = true) (hok : okL n γ l = true)
    (h : ∀ K : Fm → Prop, (∀ α', Q .normal α' H → K α') → QM P n γ l.toArray K H l α) : AW P nro n γ (.region id l.toArray true) Q α H := by
  replace h : QM P n γ l.toArray (fun α' => Q .normal α' H) H l α := h _ fun _ h => h
  intro m base w a hR hF
  refine wp_region_quiet (C := fun w' => Below w.heap.size w w') hm hB ⟨rfl, rfl, rfl, Nat.le_refl _, fun _ _ => rfl⟩ ?_
  have := QM.sound (P := P) (ops := l.toArray) (K := fun a' => ∀ w', Below w.heap.size w w' → Con nro n γ m base w Q .normal a' w') hR
    (fun a' α' hF' hq w' hb => ⟨m, α', H, List.prefix_rfl, hR.below hb, hF', hb.mono hR.base_le, hq⟩) l α a hok hF h
  simpa using this
end
end Go.Proofs.YtjfhdckcjkgjnaaDoor
