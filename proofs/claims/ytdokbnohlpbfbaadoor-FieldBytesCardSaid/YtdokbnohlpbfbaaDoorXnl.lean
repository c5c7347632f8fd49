/-
  A region whose order is drawn: pure operations, then others that only read (calls among them), then pure operations again that hang on these and may come up behind what is stored, then the rest, one behind the other. Over any program.
-/
import Derived.Test.YtdokbnohlpbfbaaDoorXn
namespace Go.Proofs.YtdokbnohlpbfbaaDoor
open Go Go.RowKit
set_option linter.unusedVariables false
set_option linter.unusedSimpArgs false

section
variable {P : Program} {nro n base : Nat} {γ : Nat → Option Nat} {m : List Ent} {H : AH} {α : Fm} {a : Act} {w : World} {Q : Exit → Fm → AH → Prop} {ops : Array Oper} {C : World → Prop}

def pureHeadG (ops : Array Oper) (B : Array Bool → Bool) : List Nat → Array Bool → Bool
  | [], listed => B listed
  | i :: is, listed => (Region.ready .any ops listed).contains i && Region.free .any ops listed i && (match ops[i]? with | some o => pureOp o.op | none => false) && pureHeadG ops B is (listed.setIfInBounds i true)
def lateHead (ops : Array Oper) (n g : Nat) (rs qs : List Nat) : List Nat → Array Bool → Bool
  | [], listed => pureHeadG ops (fun l => Region.seqB .any ops (g + 1) n l) qs listed && (Region.ready .any ops listed).all fun j => rs.all fun i => waitsT ops ops.size j i
  | i :: is, listed => (Region.ready .any ops listed).contains i && Region.free .any ops listed i && (rs.contains i && closedB ops listed) && lateHead ops n g rs qs is (listed.setIfInBounds i true)
def lateB (ops : Array Oper) (ps ss qs : List Nat) (n g : Nat) : Bool :=
  Region.noSelect ops && decide (ps.length + (ss.length + (qs.length + (g + 1))) = ops.size) && decide (n + (g + 1) = ops.size) && pureHeadG ops (lateHead ops n g ss qs ss) ps (Array.replicate ops.size false)
theorem SL.sound_pureG {l : List Oper} (hl : l.toArray = ops) (hok : okL n γ l = true) {B : Array Bool → Bool} {Qk : Fm → Prop} {Q' : Exit → Act → World → Prop} (hQ : ∀ c a w, ¬ Q' (.panic c) a w) (hsel : Region.noSelect ops = true)
    (hR : Rel nro base γ m H w) {F : Nat} (hK : ∀ a α listed, FR n m α a → B listed = true → Qk α → wpAny P .any ops Q' F listed a w) :
    ∀ (ps : List Nat) (listed : Array Bool) (α : Fm) (a : Act), pureHeadG ops B ps listed = true → FR n m α a → SL P n γ ops Qk H (sel l ps) α → wpAny P .any ops Q' (ps.length + F) listed a w
  | [], listed, α, a, hB, hF, h => by
    simp only [List.length_nil, Nat.zero_add]
    exact hK a α listed hF hB h
  | i :: ps, listed, α, a, hB, hF, h => by
    simp only [pureHeadG, Bool.and_eq_true] at hB
    obtain ⟨⟨⟨hr, hf⟩, hp⟩, hB'⟩ := hB
    have hr' : i ∈ Region.ready .any ops listed := by simpa using hr
    obtain ⟨_, oi, hoi, _⟩ := mem_ready.1 hr'
    have hli : l[i]? = some oi := by rw [← hoi, ← hl]; simp
    simp only [hoi] at hp
    have hoki : oi.op.operands.all (okOpd n γ) = true := by
      have := List.all_eq_true.1 hok oi (List.mem_of_getElem? hli)
      exact this
    simp only [sel, hli] at h
    unfold SL at h
    rw [show (i :: ps).length + F = (ps.length + F) + 1 by simp; omega]
    split at h
    · exact h.elim
    · rename_i hw
      have hwt := wantedA_spec hF hw
      exact wpAny_take hoi hsel hf hr (fun c a w h => absurd h (hQ c _ w)) (.inr ⟨hwt, rfl⟩) (SL.sound_pureG hl hok hQ hsel hR hK ps _ _ _ hB' (hF.put (plainV_mk plainV_undef)) h)
    · rename_i hw
      have hwt := wantedA_spec hF hw
      split at h
      · rename_i v hx
        obtain ⟨v', h1, h2⟩ := xread_all hp hoki hx hR hF
        exact wpAny_take hoi hsel hf hr (fun c a w h => absurd h (hQ c _ w)) (.inl ⟨hwt, h2⟩) (SL.sound_pureG hl hok hQ hsel hR hK ps _ _ _ hB' (hF.put h1) h)
      · exact h.elim
theorem wpAnyR_late {n g : Nat} {rs qs : List Nat} {Lq : Act → Prop} (hsel : Region.noSelect ops = true) (l : List Oper) (hl : l.toArray = ops) : ∀ (is : List Nat) (listed : Array Bool) (a : Act),
    lateHead ops n g rs qs is listed = true → wpQuiet P ops C Lq (sel l is) a →
    wpAnyR P ops C (fun listed' a' => lateHead ops n g rs qs [] listed' = true ∧ Lq a') is.length listed a
  | [], listed, a, hB, h => ⟨hB, h⟩
  | i :: is, listed, a, hB, h => by
    simp only [lateHead, Bool.and_eq_true] at hB
    obtain ⟨⟨⟨hr, hf⟩, hw, hcl⟩, hB'⟩ := hB
    have hr' : i ∈ Region.ready .any ops listed := by simpa using hr
    have hw' : i ∈ rs := by simpa using hw
    obtain ⟨_, oi, hoi, _⟩ := mem_ready.1 hr'
    have hli : l[i]? = some oi := by rw [← hoi, ← hl]; simp
    simp only [sel, hli] at h
    have hst : qOp P ops C i (wpQuiet P ops C Lq (sel l is)) a := by unfold qOp; simp only [hoi]; exact h
    obtain ⟨v, hy, hK⟩ := yieldsIn_of_qOp hoi hst
    refine wpAnyR_first hoi (Region.noSelect_spec hsel) (fun listed' a' hL j hj => ?_) is.length listed a (closedB_spec hcl) (Region.free_spec hoi hf) hr' hy
      (wpAnyR_late hsel l hl is _ _ hB' hK)
    have h1 := hL.1
    simp only [lateHead, Bool.and_eq_true] at h1
    exact List.all_eq_true.1 (List.all_eq_true.1 h1.2 j hj) i hw'

/-- Such a region. -/
theorem aw_late {id : Nat} {l : List Oper} (ps ss qs : List Nat) (k g : Nat) (hm : P.follows .mixedOrders = true) (hB : lateB l.toArray ps ss qs k g = true) (hok : okL n γ l = true)
    (h : ∀ K : Fm → AH → Prop, (∀ α' H', Q .normal α' H' → K α' H') → SL P n γ l.toArray (fun α1 => QM P n γ l.toArray (fun α2 => SL P n γ l.toArray (fun α' => XL P nro n γ l.toArray K (l.drop k) α' H) H (sel l qs) α2) H (sel l ss) α1) H (sel l ps) α) :
    AW P nro n γ (.region id l.toArray true) Q α H := by
  intro m base w a hR hF
  simp only [lateB, Bool.and_eq_true, decide_eq_true_eq] at hB
  obtain ⟨⟨⟨hsel, hn1⟩, hn2⟩, hph⟩ := hB
  refine wp_region_noPanic (wp_region_any hm ?_)
  have hb0 : Below w.heap.size w { w with drawn := w.drawn + 1 } := ⟨rfl, rfl, rfl, Nat.le_refl _, fun _ _ => rfl⟩
  have hR' : Rel nro base γ m H { w with drawn := w.drawn + 1 } := hR.drewN 1
  rw [← hn1]
  have hph' : pureHeadG l.toArray (lateHead l.toArray k g ss qs ss) ps (Array.replicate (ps.length + (ss.length + (qs.length + (g + 1)))) false) = true := by rw [hn1]; exact hph
  refine SL.sound_pureG rfl hok (fun c a w h => h) hsel hR' (fun a1 α1 listed1 hF1 hst hq => ?_) ps _ α a hph' hF (h _ fun _ _ h => h)
  have hdl : (l.drop k).length = g + 1 := by
    have : l.toArray.size = l.length := by simp
    simp; omega
  refine wpAny_of_headR (C := fun w' => Below w.heap.size w w') (L := fun listed' a' => lateHead l.toArray k g ss qs [] listed' = true ∧ ∃ α', FR n m α' a' ∧ SL P n γ l.toArray (fun α' => XL P nro n γ l.toArray (Q .normal) (l.drop k) α' H) H (sel l qs) α') (fun listed a' w' hw' hL => ?_) ss.length listed1 a1 { w with drawn := w.drawn + 1 } hb0 ?_
  · obtain ⟨h1, α', hF', hS⟩ := hL
    simp only [lateHead, Bool.and_eq_true] at h1
    refine SL.sound_pureG rfl hok (fun c a w h => h) hsel (hR.below hw') (fun a2 α2 listed2 hF2 hst2 hq2 => ?_) qs _ α' a' h1.1 hF' hS
    have := XL.sound (Q := fun e α H => match e with | .panic _ => False | e => Q e α H) _ _ _ (okL_take hok k).2 hq2 m base _ a2 (hR.below hw') hF2
    have h3 : wpList P l.toArray (NoPanic (Con nro n γ m base w Q)) (l.drop k) a2 w' := by
      refine wpList_mono (fun e a w'' hc => ?_) _ _ _ this
      have hc' := Con.trans (w := w') List.prefix_rfl (hw'.mono hR.base_le) hc
      cases e with
      | panic c => obtain ⟨_, _, _, _, _, _, _, hf⟩ := hc'; exact hf
      | _ => exact hc'
    have h4 := wpAny_of_seq (md := .any) (Q' := NoPanic (Con nro n γ m base w Q)) (l.drop k) k listed2 a2 w' (fun j => by simp [List.getElem?_drop]) (by rw [hdl]; exact hst2) h3
    rwa [hdl] at h4
  · refine wpAnyR_late hsel l rfl ss listed1 a1 hst ?_
    exact QM.sound hR (fun a' α' hF' hq' => ⟨α', hF', hq'⟩) (sel l ss) α1 a1 (okL_sel hok ss) hF1 hq
end
end Go.Proofs.YtdokbnohlpbfbaaDoor
