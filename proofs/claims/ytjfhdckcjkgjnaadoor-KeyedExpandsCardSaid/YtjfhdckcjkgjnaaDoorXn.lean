/-
  A region whose order is drawn: operations that look at no memory first, then others that only read, calls among them, then the rest, one behind the other. Over any program.
-/
import Derived.Test.YtjfhdckcjkgjnaaDoorXk
namespace Go.Proofs.YtjfhdckcjkgjnaaDoor
open Go Go.RowKit
set_option linter.unusedVariables false
set_option linter.unusedSimpArgs false

section
variable {P : Program} {nro n base : Nat} {γ : Nat → Option Nat} {m : List Ent} {H : AH} {α : Fm} {a : Act} {w : World} {Q : Exit → Fm → AH → Prop} {ops : Array Oper} {C : World → Prop}

def wpAnyR (P : Program) (ops : Array Oper) (C : World → Prop) (L : Array Bool → Act → Prop) : Nat → Array Bool → Act → Prop
  | 0, listed, a => L listed a
  | f + 1, listed, a =>
    Region.ready .any ops listed ≠ [] ∧ ∀ i ∈ Region.ready .any ops listed, qOp P ops C i (wpAnyR P ops C L f (listed.setIfInBounds i true)) a
theorem wpAny_of_headR {g : Nat} {L : Array Bool → Act → Prop} {Q' : Exit → Act → World → Prop} (hL : ∀ listed a w, C w → L listed a → wpAny P .any ops Q' g listed a w) :
    ∀ (f : Nat) (listed : Array Bool) (a : Act) (w : World), C w → wpAnyR P ops C L f listed a → wpAny P .any ops Q' (f + g) listed a w
  | 0, listed, a, w, hw, h => by rw [Nat.zero_add]; exact hL _ _ _ hw h
  | f + 1, listed, a, w, hw, h => by
    rw [show f + 1 + g = (f + g) + 1 by omega]
    exact ⟨fun h0 => absurd h0 h.1, fun i hi => wpOp_of_qOp hw (fun a' w' hw' h' => wpAny_of_headR hL f _ a' w' hw' h') (h.2 i hi)⟩
theorem wpAnyR_first {i : Nat} {oi : Oper} {v : Value} {L : Array Bool → Act → Prop} (hi : ops[i]? = some oi) (hsel : ∀ (j : Nat) (o : Oper) cs b, ops[j]? = some o → o.op ≠ .select cs b)
    (hdone : ∀ listed a, L listed a → ∀ j ∈ Region.ready .any ops listed, waitsT ops ops.size j i = true) :
    ∀ (f : Nat) (listed : Array Bool) (a : Act), Closed ops listed →
      (∀ j oj, ops[j]? = some oj → j ≠ i → listed.getD j true = false → (∀ e ∈ oj.after, Region.binds .any e = true → e.on ≠ i) → oi.apart ops oj = true) →
      i ∈ Region.ready .any ops listed → YieldsIn P ops C oi v a →
      wpAnyR P ops C L f (listed.setIfInBounds i true) (a.put oi.dst v) → wpAnyR P ops C L (f + 1) listed a := by
  intro f
  induction f with
  | zero =>
    intro listed a hcl _ hr hy H
    have hun := (mem_ready.1 hr).1
    refine ⟨fun h => (by rw [h] at hr; cases hr), fun j hj => ?_⟩
    by_cases hji : j = i
    · subst hji; exact hy.qOp hi H
    · obtain ⟨o, ho, e, he, hb, hon⟩ := waitsT_spec hcl hun _ _ (hdone _ _ H j (ready_mono hj hji))
      obtain ⟨_, oj, hoj, hall⟩ := mem_ready.1 hj
      have : oj = o := Option.some.inj (hoj.symm.trans ho)
      subst this
      have h1 := hall e he hb
      rw [hon] at h1
      cases h1
  | succ f ih =>
    intro listed a hcl hfree hr hy H
    have hun := (mem_ready.1 hr).1
    refine ⟨fun h => (by rw [h] at hr; cases hr), fun j hj => ?_⟩
    by_cases hji : j = i
    · subst hji; exact hy.qOp hi H
    · have h1 := H.2 j (ready_mono hj hji)
      obtain ⟨hjun, oj, hoj, hall⟩ := mem_ready.1 hj
      have hnot : ∀ e ∈ oj.after, Region.binds .any e = true → e.on ≠ i := fun e he hb heq => by
        have h1 := hall e he hb
        rw [heq, getD_both hun] at h1
        cases h1
      have h2 := qOp_put hoj (hfree j oj hoj hji hjun hnot) (fun cs b => hsel i oi cs b hi) (fun cs b => hsel j oj cs b hoj) hy h1
      have hfree' : ∀ k ok, ops[k]? = some ok → k ≠ i → (listed.setIfInBounds j true).getD k true = false →
          (∀ e ∈ ok.after, Region.binds .any e = true → e.on ≠ i) → oi.apart ops ok = true := fun k ok hk hki hun hno => by
        refine hfree k ok hk hki ?_ hno
        by_cases hjk : j = k
        · subst hjk; exact hjun
        · rw [getD_set_ne true hjk] at hun; exact hun
      refine qOp_mono (fun a' h3 => ih (listed.setIfInBounds j true) a' (hcl.put hoj hall) hfree' (ready_mono hr (Ne.symm hji)) h3.1 ?_) h2
      rw [Array.setIfInBounds_comm _ _ hji]
      exact h3.2
theorem wpAnyR_lex {n g : Nat} {Lq : Act → Prop} (hsel : Region.noSelect ops = true) (l : List Oper) (hl : l.toArray = ops) : ∀ (is : List Nat) (listed : Array Bool) (a : Act),
    stillHead ops n g is listed = true → wpQuiet P ops C Lq (sel l is) a →
    wpAnyR P ops C (fun listed' a' => Region.seqB .any ops (g + 1) n listed' = true ∧ Lq a') is.length listed a
  | [], listed, a, hB, h => ⟨by simpa [stillHead] using hB, h⟩
  | i :: is, listed, a, hB, h => by
    simp only [stillHead, Bool.and_eq_true] at hB
    obtain ⟨⟨⟨hr, hf⟩, hw, hcl⟩, hB'⟩ := hB
    have hr' : i ∈ Region.ready .any ops listed := by simpa using hr
    obtain ⟨_, oi, hoi, _⟩ := mem_ready.1 hr'
    have hli : l[i]? = some oi := by rw [← hoi, ← hl]; simp
    simp only [sel, hli] at h
    have hst : qOp P ops C i (wpQuiet P ops C Lq (sel l is)) a := by unfold qOp; simp only [hoi]; exact h
    obtain ⟨v, hy, hK⟩ := yieldsIn_of_qOp hoi hst
    refine wpAnyR_first hoi (Region.noSelect_spec hsel) (fun listed' a' hL j hj => ?_) is.length listed a (closedB_spec hcl) (Region.free_spec hoi hf) hr' hy
      (wpAnyR_lex hsel l hl is _ _ hB' hK)
    have h1 := hL.1
    simp only [Region.seqB, Bool.and_eq_true, decide_eq_true_eq] at h1
    rw [h1.1] at hj
    have : j = n := by simpa using hj
    rw [this]; exact hw

/-- Such a region. -/
theorem aw_floatQ {id : Nat} {l : List Oper} (ps ss : List Nat) (k g : Nat) (hm : P.follows .mixedOrders = true) (hB : floatB l.toArray ps ss k g = true) (hok : okL n γ l = true)
    (h : ∀ K : Fm → AH → Prop, (∀ α' H', Q .normal α' H' → K α' H') → SL P n γ l.toArray (fun α1 => QM P n γ l.toArray (fun α' => XL P nro n γ l.toArray K (l.drop k) α' H) H (sel l ss) α1) H (sel l ps) α) :
    AW P nro n γ (.region id l.toArray true) Q α H := by
  intro m base w a hR hF
  simp only [floatB, Bool.and_eq_true, decide_eq_true_eq] at hB
  obtain ⟨⟨⟨hsel, hn1⟩, hn2⟩, hph⟩ := hB
  refine wp_region_noPanic (wp_region_any hm ?_)
  have hb0 : Below w.heap.size w { w with drawn := w.drawn + 1 } := ⟨rfl, rfl, rfl, Nat.le_refl _, fun _ _ => rfl⟩
  have hR' : Rel nro base γ m H { w with drawn := w.drawn + 1 } := hR.drewN 1
  rw [← hn1]
  have hph' : pureHead l.toArray k g ss ps (Array.replicate (ps.length + (ss.length + (g + 1))) false) = true := by rw [hn1]; exact hph
  refine SL.sound_pure rfl hok (fun c a w h => h) hsel hR' (fun a1 α1 listed1 hF1 hst hq => ?_) ps _ α a hph' hF (h _ fun _ _ h => h)
  have hdl : (l.drop k).length = g + 1 := by
    have : l.toArray.size = l.length := by simp
    simp; omega
  refine wpAny_of_headR (C := fun w' => Below w.heap.size w w') (L := fun listed' a' => Region.seqB .any l.toArray (g + 1) k listed' = true ∧ ∀ w', Below w.heap.size w w' → wpList P l.toArray (NoPanic (Con nro n γ m base w Q)) (l.drop k) a' w') (fun listed a' w' hw' hL => ?_) ss.length listed1 a1 _ hb0 ?_
  · have := wpAny_of_seq (md := .any) (Q' := NoPanic (Con nro n γ m base w Q)) (l.drop k) k listed a' w' (fun j => by simp [List.getElem?_drop]) (by rw [hdl]; exact hL.1) (hL.2 w' hw')
    rwa [hdl] at this
  · refine wpAnyR_lex hsel l rfl ss listed1 a1 hst ?_
    refine QM.sound hR (fun a' α' hF' hq' => ?_) (sel l ss) α1 a1 (okL_sel hok ss) hF1 hq
    intro w' hw'
    have := XL.sound (Q := fun e α H => match e with | .panic _ => False | e => Q e α H) _ _ _ (okL_take hok k).2 hq' m base _ a' (hR.below hw') hF'
    refine wpList_mono (fun e a w'' hc => ?_) _ _ _ this
    have hc' := Con.trans (w := w') List.prefix_rfl (hw'.mono hR.base_le) hc
    cases e with
    | panic c => obtain ⟨_, _, _, _, _, _, _, hf⟩ := hc'; exact hf
    | _ => exact hc'
end
end Go.Proofs.YtjfhdckcjkgjnaaDoor
