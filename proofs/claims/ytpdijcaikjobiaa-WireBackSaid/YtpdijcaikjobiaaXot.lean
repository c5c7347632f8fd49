/-
  A region whose order is drawn, with calls: the orders as a tree. Over any program.
-/
import Derived.Test.YtpdijcaikjobiaaLibB
namespace Go.Proofs.Ytpdijcaikjobiaa
open Go Go.RowKit
set_option linter.unusedVariables false
set_option linter.unusedSimpArgs false

def headsO : List (List Nat) → List Nat
  | [] => []
  | (j :: _) :: os => if (headsO os).contains j then headsO os else j :: headsO os
  | [] :: os => headsO os
theorem headsO_mem {i : Nat} {o : List Nat} : ∀ {os : List (List Nat)}, (i :: o) ∈ os → i ∈ headsO os
  | [] :: os, h => by
    rcases List.mem_cons.1 h with h | h
    · cases h
    · exact headsO_mem (os := os) h
  | (j :: l) :: os, h => by
    unfold headsO
    rcases List.mem_cons.1 h with h | h
    · cases h
      split
      · rename_i hc; simpa using hc
      · simp
    · have := headsO_mem (os := os) h
      split
      · exact this
      · exact List.mem_cons_of_mem _ this
def XLk (P : Program) (nro : Nat) (γ : Nat → Option Nat) (r : St) (d : Option Tmp) (α : Fm) (H : AH) (k : Fm → AH → Prop) : Prop :=
  match r with
  | .no => False
  | .val v H' => k (α.put d v) H'
  | .call f args => callable P f = true ∧ AC P nro γ f args H fun v H' => k (α.put d v) H'
def XO (P : Program) (nro n : Nat) (γ : Nat → Option Nat) (ops : Array Oper) (K : Fm → AH → Prop) (l : List Oper) : Nat → List (List Nat) → Fm → AH → Prop
  | 0, _, α, H => K α H
  | f + 1, os, α, H => ∀ i ∈ headsO os, match l[i]? with
    | none => False
    | some o => XLk P nro γ (step1 P nro n γ ops o α H) o.dst α H (XO P nro n γ ops K l f (behind i os))
section
variable {P : Program} {nro n base : Nat} {γ : Nat → Option Nat} {m : List Ent} {H : AH} {α : Fm} {a : Act} {w : World} {Q : Exit → Fm → AH → Prop} {ops : Array Oper}
theorem XO_z {K : Fm → AH → Prop} {l : List Oper} {os : List (List Nat)} : XO P nro n γ ops K l 0 os α H = K α H := rfl
theorem XO_s {K : Fm → AH → Prop} {l : List Oper} {f : Nat} {os : List (List Nat)} : XO P nro n γ ops K l (f + 1) os α H = ∀ i ∈ headsO os, match l[i]? with
    | none => False
    | some o => XLk P nro γ (step1 P nro n γ ops o α H) o.dst α H (XO P nro n γ ops K l f (behind i os)) := rfl
theorem XLk_val {v : Value} {H' : AH} {d : Option Tmp} {k : Fm → AH → Prop} : XLk P nro γ (.val v H') d α H k = k (α.put d v) H' := rfl
theorem XLk_call {f : FuncId} {args : Array Value} {d : Option Tmp} {k : Fm → AH → Prop} : XLk P nro γ (.call f args) d α H k = (callable P f = true ∧ AC P nro γ f args H fun v H' => k (α.put d v) H') := rfl
theorem tree_run {l : List Oper} (hl : l.toArray = ops) (hok : okL n γ l = true) {K : Fm → AH → Prop} (hK : ∀ α H, K α H → Q .normal α H) {w0 : World} {m0 : List Ent} : ∀ (f : Nat) (listed : Array Bool) (os : List (List Nat)) (α : Fm) (H : AH) (m : List Ent) (w : World) (a : Act),
    ordersB ops f listed os = true → XO P nro n γ ops K l f os α H → m0 <+: m → Rel nro base γ m H w → FR n m α a → Below base w0 w → wpAny P .any ops (Con nro n γ m0 base w0 Q) f listed a w
  | 0, listed, os, α, H, m, w, a, hB, h, hm, hR, hF, hb => by
    simp only [ordersB, Bool.and_eq_true, List.contains_iff_mem, List.isEmpty_iff] at hB
    exact ⟨hB.1, m, α, H, hm, hR, hF, hb, hK _ _ h⟩
  | f + 1, listed, os, α, H, m, w, a, hB, h, hm, hR, hF, hb => by
    simp only [ordersB, Bool.and_eq_true] at hB
    refine ⟨fun h0 => (by rw [h0] at hB; simp at hB), fun i hi => ?_⟩
    have hBi := List.all_eq_true.1 hB.2 i hi
    obtain ⟨_, o, ho, _⟩ := mem_ready.1 hi
    have hli : l[i]? = some o := by rw [← ho, ← hl]; simp
    have hmem := List.mem_of_getElem? hli
    have hoko : o.op.operands.all (okOpd n γ) = true := List.all_eq_true.1 hok o hmem
    obtain ⟨r0, hr0⟩ := orders_ne f _ _ hBi
    have hstep : XLk P nro γ (step1 P nro n γ ops o α H) o.dst α H (XO P nro n γ ops K l f (behind i os)) := by
      have := h i (headsO_mem (behind_mem hr0))
      rw [hli] at this
      exact this
    rw [step1_eq] at hstep
    unfold wpOp
    simp only [ho]
    have fin : ∀ (v : Value) (v' : Value) (m' : List Ent) (H' : AH) (w' : World), m <+: m' → V m' v v' → Rel nro base γ m' H' w' → Below base w w' → XO P nro n γ ops K l f (behind i os) (α.put o.dst v) H' →
        wpAny P .any ops (Con nro n γ m0 base w0 Q) f (listed.setIfInBounds i true) (a.put o.dst v') w' := fun v v' m' H' w' h1 h2 h3 h4 h5 =>
      tree_run hl hok hK f _ _ _ _ m' w' _ hBi h5 (hm.trans h1) h3 ((hF.mono h1).put h2) (hb.trans h4)
    cases hw : wantedA ops n α o with
    | none => rw [hw] at hstep; exact hstep.elim
    | some b =>
      rw [wantedA_spec hF hw]
      cases b with
      | false =>
        simp only [Bool.false_eq_true, if_false]
        rw [hw] at hstep
        exact fin undef undef m H w List.prefix_rfl (plainV_mk plainV_undef) hR (.refl _ _) hstep
      | true =>
        rw [hw, stepW_t] at hstep
        simp only [if_true]
        refine .inl ?_
        unfold Oper.wp
        cases hc : calleeOf γ α o.op with
        | some c =>
          obtain ⟨cf, cargs⟩ := c
          rw [hc, stepC_s, XLk_call] at hstep
          obtain ⟨hcal, hac⟩ := hstep
          obtain ⟨xs, ts, hop, rfl⟩ := callee_ops hc
          have hxs : xs.all (okOpd n γ) = true := by
            have := hoko
            rw [hop] at this
            rw [Array.all_eq_true] at this ⊢
            intro i hi
            have := this (i + 1) (by simp [Op.operands, Call.operands]; omega)
            simpa [Op.operands, Call.operands, Array.getElem_append] using this
          obtain ⟨h1, h2⟩ := args_rel hR hF hxs
          rcases hac m base w (xs.map a.eval) hR h1 h2 with ⟨hbd, hac'⟩ | ⟨v0, hrun, m', v, v', H', he, hm', hv, hR', hb', hx⟩
          · rw [call_run hop hcal hbd, Oper.upon_enter]
            refine hac'.mono ?_
            rintro e w' ⟨m', v, v', H', rfl, hm', hv, hR', hb', hx⟩
            exact fin v v' m' H' w' hm' hv hR' hb' hx
          · cases he
            rw [call_runV hop hrun, Oper.upon_value]
            exact fin v v0 m' H' w hm' hv hR' hb' hx
        | none =>
          rw [hc, stepC_n] at hstep
          cases hxo : xop P nro γ o.op α H with
          | none =>
            rw [hxo, stepX_n] at hstep
            cases hcx : calleeX γ α o.op with
            | none => rw [hcx] at hstep; exact hstep.elim
            | some c =>
              obtain ⟨cf, cargs⟩ := c
              rw [hcx, stepN_s, XLk_call] at hstep
              obtain ⟨hcal, hac⟩ := hstep
              obtain ⟨args', h1, h2, hrun1, hrun2⟩ := calleeX_run (P := P) hR hF hoko hcx
              rcases hac m base w args' hR h1 h2 with ⟨hbd, hac'⟩ | ⟨v0, hrun, m', v, v', H', he, hm', hv, hR', hb', hx⟩
              · rw [hrun1 hcal hbd, Oper.upon_enter]
                refine hac'.mono ?_
                rintro e w' ⟨m', v, v', H', rfl, hm', hv, hR', hb', hx⟩
                exact fin v v' m' H' w' hm' hv hR' hb' hx
              · cases he
                rw [hrun2 v0 hrun, Oper.upon_value]
                exact fin v v0 m' H' w hm' hv hR' hb' hx
          | some vH =>
            obtain ⟨v, H'⟩ := vH
            rw [hxo, stepX_s, XLk_val] at hstep
            obtain ⟨m', x, w', v', h1, h2, h3, h4, h5, h6⟩ := xop_av hoko hxo m base w a hR hF
            rw [h1]
            rcases h2 with rfl | ⟨rfl, rfl⟩
            · exact fin v v' m' H' w' h3 h4 h5 h6 hstep
            · exact fin v undef m' H' w' h3 h4 h5 h6 hstep
theorem aw_tree {id : Nat} {l : List Oper} (os : List (List Nat)) (hm : P.follows .mixedOrders = true) (hB : ordersB l.toArray l.length (Array.replicate l.length false) os = true) (hok : okL n γ l = true)
    (h : ∀ K : Fm → AH → Prop, (∀ α' H', Q .normal α' H' → K α' H') → XO P nro n γ l.toArray K l l.length os α H) : AW P nro n γ (.region id l.toArray true) Q α H := by
  intro m base w a hR hF
  refine wp_region_any hm ?_
  have := tree_run (P := P) (Q := Q) (ops := l.toArray) rfl hok (fun _ _ h => h) (w0 := w) (m0 := m) l.length (Array.replicate l.length false) os α H m { w with drawn := w.drawn + 1 } a hB (h (Q .normal) fun _ _ h => h) List.prefix_rfl (hR.drewN 1) hF (Below.drew (.refl base w))
  simpa using this
end
end Go.Proofs.Ytpdijcaikjobiaa
