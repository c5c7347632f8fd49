/-
  As XXp, and conversions to integers may come up behind stores too. Over any program.
-/
import Derived.Test.YthkcbhealphpmaaXp
namespace Go.Proofs.Ythkcbhealphpmaa
open Go Go.RowKit
set_option linter.unusedVariables false
set_option linter.unusedSimpArgs false

def pureOpC (P : Program) : Op → Bool
  | .convert _ d _ => (match und P d with | .int _ => true | _ => false)
  | o => pureOp o
def pureHeadC (P : Program) (ops : Array Oper) (n g : Nat) (ss : List Nat) : List Nat → Array Bool → Bool
  | [], listed => stillHead ops n g ss listed
  | i :: is, listed => (Region.ready .any ops listed).contains i && Region.free .any ops listed i && (match ops[i]? with | some o => pureOpC P o.op | none => false) && pureHeadC P ops n g ss is (listed.setIfInBounds i true)
def floatBC (P : Program) (ops : Array Oper) (ps ss : List Nat) (n g : Nat) : Bool :=
  Region.noSelect ops && decide (ps.length + (ss.length + (g + 1)) = ops.size) && decide (n + (g + 1) = ops.size) && pureHeadC P ops n g ss ps (Array.replicate ops.size false)
section
variable {P : Program} {nro n base : Nat} {γ : Nat → Option Nat} {m : List Ent} {H : AH} {α : Fm} {a : Act} {w : World} {Q : Exit → Fm → AH → Prop} {ops : Array Oper}

theorem xread_allC {o : Oper} {v : Value} (hp : pureOpC P o.op = true) (hok : o.op.operands.all (okOpd n γ) = true) (h : xread P γ o.op α H = some v) (hR : Rel nro base γ m H w) (hF : FR n m α a) :
    ∃ v', V m v v' ∧ ∀ w', (execOp a.eval o).run P w' = .ok (.value v') w' := by
  obtain ⟨dst, op, type, pos, after, guard⟩ := o
  simp only at hok h hp
  by_cases hc : ∃ s d x, op = .convert s d x
  · obtain ⟨s, d, x, rfl⟩ := hc
    have ev : V m (α.eval γ x) (a.eval x) := hF.eval hR (by
      obtain ⟨i, hi, hx⟩ := Array.mem_iff_getElem.1 (show x ∈ (Op.convert s d x).operands by simp [Op.operands])
      have := (Array.all_eq_true.1 hok) i hi
      rw [hx] at this
      exact this)
    simp only [xread] at h
    unfold xconv at h
    simp only [pureOpC] at hp
    split at h
    · rename_i k0 v0 hd hx
      split at h
      case isFalse => cases h
      rename_i hs
      cases h
      rw [hx] at ev
      have := ev.int_
      have h1 := und_some (rfl : und P s = und P s) (okD_ne hs)
      have h2 := und_some hd (by simp)
      refine ⟨_, plainV_mk rfl, fun w' => ?_⟩
      refine run_v ?_
      rw [this]
      simp only [convert, Sem.run_bind, run_underlying h1, run_underlying h2, Result.andThen_ok]
      cases und P s <;> simp [Conv.intToInt]
    all_goals first
      | (cases h; done)
      | (rename_i hd _; rw [hd] at hp; cases hp; done)
      | (rename_i hd _ _; rw [hd] at hp; cases hp; done)
      | (simp_all; done)
  · have hp' : pureOp op = true := by
      unfold pureOpC at hp
      split at hp
      · exact absurd ⟨_, _, _, rfl⟩ hc
      · exact hp
    exact xread_all (o := ⟨dst, op, type, pos, after, guard⟩) hp' hok h hR hF

theorem SL.sound_pureC {n' g : Nat} {l : List Oper} (hl : l.toArray = ops) (hok : okL n γ l = true) {ss : List Nat} {Qk : Fm → Prop} {Q' : Exit → Act → World → Prop} (hQ : ∀ c a w, ¬ Q' (.panic c) a w) (hsel : Region.noSelect ops = true)
    (hR : Rel nro base γ m H w) {F : Nat} (hK : ∀ a α listed, FR n m α a → stillHead ops n' g ss listed = true → Qk α → wpAny P .any ops Q' F listed a w) :
    ∀ (ps : List Nat) (listed : Array Bool) (α : Fm) (a : Act), pureHeadC P ops n' g ss ps listed = true → FR n m α a → SL P n γ ops Qk H (sel l ps) α → wpAny P .any ops Q' (ps.length + F) listed a w
  | [], listed, α, a, hB, hF, h => by
    simp only [List.length_nil, Nat.zero_add]
    exact hK a α listed hF hB h
  | i :: ps, listed, α, a, hB, hF, h => by
    simp only [pureHeadC, Bool.and_eq_true] at hB
    obtain ⟨⟨⟨hr, hf⟩, hp⟩, hB'⟩ := hB
    have hr' : i ∈ Region.ready .any ops listed := by simpa using hr
    obtain ⟨_, oi, hoi, _⟩ := mem_ready.1 hr'
    have hli : l[i]? = some oi := by rw [← hoi, ← hl]; simp
    simp only [hoi] at hp
    have hoki : oi.op.operands.all (okOpd n γ) = true := by
      have := List.all_eq_true.1 hok oi (List.mem_of_getElem? hli)
      exact this
    simp only [sel, hli] at h
    unfold SL at h
    rw [show (i :: ps).length + F = (ps.length + F) + 1 by simp; omega]
    split at h
    · exact h.elim
    · rename_i hw
      have hwt := wantedA_spec hF hw
      exact wpAny_take hoi hsel hf hr (fun c a w h => absurd h (hQ c _ w)) (.inr ⟨hwt, rfl⟩) (SL.sound_pureC hl hok hQ hsel hR hK ps _ _ _ hB' (hF.put (plainV_mk plainV_undef)) h)
    · rename_i hw
      have hwt := wantedA_spec hF hw
      split at h
      · rename_i v hx
        obtain ⟨v', h1, h2⟩ := xread_allC hp hoki hx hR hF
        exact wpAny_take hoi hsel hf hr (fun c a w h => absurd h (hQ c _ w)) (.inl ⟨hwt, h2⟩) (SL.sound_pureC hl hok hQ hsel hR hK ps _ _ _ hB' (hF.put h1) h)
      · exact h.elim
/-- Such a region. -/
theorem aw_floatC {id : Nat} {l : List Oper} (ps ss : List Nat) (k g : Nat) (hm : P.follows .mixedOrders = true) (hB : floatBC P l.toArray ps ss k g = true) (hok : okL n γ l = true)
    (h : ∀ K : Fm → AH → Prop, (∀ α' H', Q .normal α' H' → K α' H') → SL P n γ l.toArray (fun α1 => SL P n γ l.toArray (fun α' => XL P nro n γ l.toArray K (l.drop k) α' H) H (sel l ss) α1) H (sel l ps) α) :
    AW P nro n γ (.region id l.toArray true) Q α H := by
  intro m base w a hR hF
  simp only [floatBC, Bool.and_eq_true, decide_eq_true_eq] at hB
  obtain ⟨⟨⟨hsel, hn1⟩, hn2⟩, hph⟩ := hB
  refine wp_region_noPanic (wp_region_any hm ?_)
  have hR' : Rel nro base γ m H { w with drawn := w.drawn + 1 } := hR.drewN 1
  rw [← hn1]
  have hph' : pureHeadC P l.toArray k g ss ps (Array.replicate (ps.length + (ss.length + (g + 1))) false) = true := by rw [hn1]; exact hph
  refine SL.sound_pureC rfl hok (fun c a w h => h) hsel hR' (fun a1 α1 listed1 hF1 hst hq => ?_) ps _ α a hph' hF (h _ fun _ _ h => h)
  have hdl : (l.drop k).length = g + 1 := by
    have : l.toArray.size = l.length := by simp
    simp; omega
  refine wpAny_of_headN (L := fun listed' a' => Region.seqB .any l.toArray (g + 1) k listed' = true ∧ wpList P l.toArray (NoPanic (Con nro n γ m base w Q)) (l.drop k) a' { w with drawn := w.drawn + 1 }) (fun listed a' hL => ?_) ss.length listed1 a1 ?_
  · have := wpAny_of_seq (md := .any) (Q' := NoPanic (Con nro n γ m base w Q)) (l.drop k) k listed a' { w with drawn := w.drawn + 1 } (fun j => by simp [List.getElem?_drop]) (by rw [hdl]; exact hL.1) hL.2
    rwa [hdl] at this
  · refine wpAnyN_lex hsel l rfl ss listed1 a1 hst ?_
    refine SL.sound hR' (fun a' α' hF' hq' => ?_) (sel l ss) α1 a1 (okL_sel hok ss) hF1 hq
    have := XL.sound (Q := fun e α H => match e with | .panic _ => False | e => Q e α H) _ _ _ (okL_take hok k).2 hq' m base _ a' hR' hF'
    refine wpList_mono (fun e a w' hc => ?_) _ _ _ this
    have hc' := Con.trans (w := { w with drawn := w.drawn + 1 }) List.prefix_rfl (Below.drew (.refl base w)) hc
    cases e with
    | panic c => obtain ⟨_, _, _, _, _, _, _, hf⟩ := hc'; exact hf
    | _ => exact hc'
end
end Go.Proofs.Ythkcbhealphpmaa
