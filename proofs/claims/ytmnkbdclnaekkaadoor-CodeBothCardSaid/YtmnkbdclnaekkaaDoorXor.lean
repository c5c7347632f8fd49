/-
  A region whose order is drawn, without calls: each order told. Over any program.
-/
import Derived.Test.YtmnkbdclnaekkaaDoorXm
namespace Go.Proofs.YtmnkbdclnaekkaaDoor
open Go Go.RowKit
set_option linter.unusedVariables false
set_option linter.unusedSimpArgs false

/-- Those orders that begin with an operation, without it. -/
def behind (i : Nat) : List (List Nat) → List (List Nat)
  | [] => []
  | (j :: l) :: os => if j = i then l :: behind i os else behind i os
  | [] :: os => behind i os
def ordersB (ops : Array Oper) : Nat → Array Bool → List (List Nat) → Bool
  | 0, listed, os => (Region.ready .any ops listed).isEmpty && os.contains []
  | f + 1, listed, os => !(Region.ready .any ops listed).isEmpty && (Region.ready .any ops listed).all fun i => ordersB ops f (listed.setIfInBounds i true) (behind i os)
theorem behind_mem {i : Nat} {o : List Nat} : ∀ {os : List (List Nat)}, o ∈ behind i os → (i :: o) ∈ os
  | [] :: os, h => by simp only [behind] at h; exact List.mem_cons_of_mem _ (behind_mem h)
  | (j :: l) :: os, h => by
    simp only [behind] at h
    split at h
    · rename_i e
      subst e
      rcases List.mem_cons.1 h with rfl | h
      · exact List.mem_cons_self
      · exact List.mem_cons_of_mem _ (behind_mem h)
    · exact List.mem_cons_of_mem _ (behind_mem h)
/-- A call of a function's value. -/
def isCallT : Op → Bool
  | .call ⟨.value (.tmp _), _, _⟩ => true
  | _ => false
theorem calleeX_isT {γ : Nat → Option Nat} {α : Fm} {op : Op} {c : FuncId × Array Value} (h : calleeX γ α op = some c) : isCallT op = true := by
  unfold calleeX at h
  split at h
  · rfl
  · cases h
def isCallG (op : Op) : Bool := isCallF op || isCallT op
theorem isCallG_f {op : Op} (h : isCallG op = false) : isCallF op = false ∧ isCallT op = false := by simpa [isCallG] using h
def noCall (l : List Oper) : Bool := l.all fun o => !isCallF o.op && !isCallT o.op
section
variable {P : Program} {nro n base : Nat} {γ : Nat → Option Nat} {m : List Ent} {H : AH} {α : Fm} {a : Act} {w : World} {Q : Exit → Fm → AH → Prop} {ops : Array Oper}
theorem orders_ne {ops : Array Oper} : ∀ (f : Nat) (listed : Array Bool) (os : List (List Nat)), ordersB ops f listed os = true → ∃ o, o ∈ os
  | 0, listed, os, h => by simp only [ordersB, Bool.and_eq_true, List.contains_iff_mem] at h; exact ⟨_, h.2⟩
  | f + 1, listed, os, h => by
    simp only [ordersB, Bool.and_eq_true] at h
    cases hr : Region.ready .any ops listed with
    | nil => rw [hr] at h; simp at h
    | cons i rs =>
      rw [hr] at h
      simp only [List.all_cons, Bool.and_eq_true] at h
      obtain ⟨o, ho⟩ := orders_ne f _ _ h.2.1
      exact ⟨_, behind_mem ho⟩
theorem orders_run {l : List Oper} (hl : l.toArray = ops) (hok : okL n γ l = true) (hnc : noCall l = true) {K : Fm → AH → Prop} (hK : ∀ α H, K α H → Q .normal α H) {w0 : World} {m0 : List Ent} : ∀ (f : Nat) (listed : Array Bool) (os : List (List Nat)) (α : Fm) (H : AH) (m : List Ent) (w : World) (a : Act),
    ordersB ops f listed os = true → (∀ o ∈ os, XL P nro n γ ops K (sel l o) α H) → m0 <+: m → Rel nro base γ m H w → FR n m α a → Below base w0 w → wpAny P .any ops (Con nro n γ m0 base w0 Q) f listed a w
  | 0, listed, os, α, H, m, w, a, hB, h, hm, hR, hF, hb => by
    simp only [ordersB, Bool.and_eq_true, List.contains_iff_mem, List.isEmpty_iff] at hB
    exact ⟨hB.1, m, α, H, hm, hR, hF, hb, hK _ _ (h [] hB.2)⟩
  | f + 1, listed, os, α, H, m, w, a, hB, h, hm, hR, hF, hb => by
    simp only [ordersB, Bool.and_eq_true] at hB
    refine ⟨fun h0 => (by rw [h0] at hB; simp at hB), fun i hi => ?_⟩
    have hBi := List.all_eq_true.1 hB.2 i hi
    obtain ⟨_, o, ho, _⟩ := mem_ready.1 hi
    have hli : l[i]? = some o := by rw [← ho, ← hl]; simp
    have hmem := List.mem_of_getElem? hli
    have hoko : o.op.operands.all (okOpd n γ) = true := List.all_eq_true.1 hok o hmem
    have hco : isCallF o.op = false ∧ isCallT o.op = false := by simpa using List.all_eq_true.1 hnc o hmem
    have hx : ∀ r ∈ behind i os, XL P nro n γ ops K (o :: sel l r) α H := fun r hr => by
      have := h _ (behind_mem hr)
      simpa only [sel, hli] using this
    obtain ⟨r0, hr0⟩ := orders_ne f _ _ hBi
    have hstep := hx r0 hr0
    rw [XL_cons, step1_eq] at hstep
    unfold wpOp
    simp only [ho]
    cases hw : wantedA ops n α o with
    | none => rw [hw] at hstep; exact hstep.elim
    | some b =>
      rw [wantedA_spec hF hw]
      cases b with
      | false =>
        simp only [Bool.false_eq_true, if_false]
        refine orders_run hl hok hnc hK f _ _ _ H m w _ hBi (fun r hr => ?_) hm hR (hF.put (plainV_mk plainV_undef)) hb
        have := hx r hr
        rw [XL_cons, step1_eq, hw] at this
        exact this
      | true =>
        rw [hw, stepW_t] at hstep
        cases hc : calleeOf γ α o.op with
        | some c => rw [callee_isCall hc] at hco; cases hco.1
        | none =>
          rw [hc, stepC_n] at hstep
          cases hxo : xop P nro γ o.op α H with
          | none =>
            rw [hxo, stepX_n] at hstep
            cases hcx : calleeX γ α o.op with
            | none => rw [hcx] at hstep; exact hstep.elim
            | some c => have := calleeX_isT hcx; rw [this] at hco; cases hco.2
          | some vH =>
            obtain ⟨v, H'⟩ := vH
            obtain ⟨m', x, w', v', h1, h2, h3, h4, h5, h6⟩ := xop_av hoko hxo m base w a hR hF
            simp only [if_true]
            refine .inl ?_
            have hnext := orders_run hl hok hnc hK f _ _ (α.put o.dst v) H' m' w' (a.put o.dst v') hBi (fun r hr => by
              have := hx r hr
              rw [XL_cons, step1_eq, hw, stepW_t, hc, stepC_n, hxo] at this
              exact this) (hm.trans h3) h5 ((hF.mono h3).put h4) (hb.trans h6)
            unfold Oper.wp
            rw [h1]
            rcases h2 with rfl | ⟨rfl, rfl⟩
            · exact hnext
            · exact hnext
theorem aw_orders {id : Nat} {l : List Oper} (os : List (List Nat)) (hm : P.follows .mixedOrders = true) (hB : ordersB l.toArray l.length (Array.replicate l.length false) os = true) (hok : okL n γ l = true) (hnc : noCall l = true)
    (h : ∀ K : Fm → AH → Prop, (∀ α' H', Q .normal α' H' → K α' H') → ∀ o ∈ os, XL P nro n γ l.toArray K (sel l o) α H) : AW P nro n γ (.region id l.toArray true) Q α H := by
  intro m base w a hR hF
  refine wp_region_any hm ?_
  have := orders_run (P := P) (Q := Q) (ops := l.toArray) rfl hok hnc (fun _ _ h => h) (w0 := w) (m0 := m) l.length (Array.replicate l.length false) os α H m { w with drawn := w.drawn + 1 } a hB (h (Q .normal) fun _ _ h => h) List.prefix_rfl (hR.drewN 1) hF (Below.drew (.refl base w))
  simpa using this
end
end Go.Proofs.YtmnkbdclnaekkaaDoor
