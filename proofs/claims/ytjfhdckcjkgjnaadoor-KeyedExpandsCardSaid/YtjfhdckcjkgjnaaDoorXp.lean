/-
  A region whose order is drawn and in which operations that look at no memory may come up behind stores: those first, then the others that only read, then the rest, one behind the other. Over any program.
-/
import Derived.Test.YtjfhdckcjkgjnaaDoorXo
import Derived.Deep.RegionHeld3
namespace Go.Proofs.YtjfhdckcjkgjnaaDoor
open Go Go.RowKit
set_option linter.unusedVariables false
set_option linter.unusedSimpArgs false

/-- Operations that look at no memory. -/
def pureOp : Op → Bool
  | .move _ | .assign _ | .pick .. | .unOp .. | .fieldAddr .. | .field .. | .indexAddr .. | .index .. | .extract .. => true
  | .binOp .. | .nilCheck .. => true
  | _ => false
def sel (l : List Oper) : List Nat → List Oper
  | [] => []
  | i :: is => match l[i]? with
    | some o => o :: sel l is
    | none => []
/-- Does an operation wait for another one, by whatever way? -/
def waitsT (ops : Array Oper) : Nat → Nat → Nat → Bool
  | 0, j, i => Region.waitsFor .any ops j i
  | f + 1, j, i => Region.waitsFor .any ops j i || (match ops[j]? with | some o => o.after.any fun e => Region.binds .any e && waitsT ops f e.on i | none => false)
/-- All that those which are done waited for is done. -/
def closedB (ops : Array Oper) (listed : Array Bool) : Bool :=
  (List.range ops.size).all fun k => !(listed.getD k true) || (match ops[k]? with | some o => o.after.all fun e => !(Region.binds .any e) || listed.getD e.on false | none => true)
def Closed (ops : Array Oper) (listed : Array Bool) : Prop := ∀ k o, ops[k]? = some o → listed.getD k true = true → ∀ e ∈ o.after, Region.binds .any e = true → listed.getD e.on false = true
theorem closedB_spec {ops : Array Oper} {listed : Array Bool} (h : closedB ops listed = true) : Closed ops listed := by
  intro k o hk hl e he hb
  unfold closedB at h
  rw [List.all_eq_true] at h
  have hlt : k < ops.size := (Array.getElem?_eq_some_iff.1 hk).1
  have h1 := h k (List.mem_range.2 hlt)
  rw [hl, hk] at h1
  simp only [Bool.not_true, Bool.false_or] at h1
  rw [Array.all_eq_true_iff_forall_mem] at h1
  have h2 := h1 e he
  rw [hb] at h2
  simpa using h2
theorem Closed.put {ops : Array Oper} {listed : Array Bool} (h : Closed ops listed) {j : Nat} {oj : Oper} (hoj : ops[j]? = some oj) (hall : ∀ e ∈ oj.after, Region.binds .any e = true → listed.getD e.on false = true) : Closed ops (listed.setIfInBounds j true) := by
  have up : ∀ x, listed.getD x false = true → (listed.setIfInBounds j true).getD x false = true := by
    intro x hx
    by_cases e : j = x
    · subst e
      simp only [Array.getD_eq_getD_getElem?, Array.getElem?_setIfInBounds] at hx ⊢
      by_cases hs : j < listed.size
      · simp [hs]
      · simp [hs] at hx
    · rw [getD_set_ne false e]; exact hx
  intro k o hk hl e he hb
  by_cases hjk : j = k
  · subst hjk
    have : oj = o := Option.some.inj (hoj.symm.trans hk)
    subst this
    exact up _ (hall e he hb)
  · rw [getD_set_ne true hjk] at hl
    exact up _ (h k o hk hl e he hb)
theorem waitsT_spec {ops : Array Oper} {listed : Array Bool} (hc : Closed ops listed) {i : Nat} (hi : listed.getD i true = false) : ∀ (f j : Nat), waitsT ops f j i = true → ∃ o, ops[j]? = some o ∧ ∃ e ∈ o.after, Region.binds .any e = true ∧ listed.getD e.on false = false := by
  have dir : ∀ j, Region.waitsFor .any ops j i = true → ∃ o, ops[j]? = some o ∧ ∃ e ∈ o.after, Region.binds .any e = true ∧ listed.getD e.on false = false := by
    intro j h
    obtain ⟨o, ho, e, he, hb, hon⟩ := Region.waitsFor_spec h
    exact ⟨o, ho, e, he, hb, by rw [hon]; exact getD_both hi⟩
  intro f
  induction f with
  | zero => intro j h; exact dir j h
  | succ f ih =>
    intro j h
    unfold waitsT at h
    rw [Bool.or_eq_true] at h
    rcases h with h | h
    · exact dir j h
    · split at h
      · rename_i o ho
        rw [Array.any_eq_true'] at h
        obtain ⟨e, he, hb⟩ := h
        rw [Bool.and_eq_true] at hb
        obtain ⟨o', ho', e', he', hb', hl'⟩ := ih e.on hb.2
        refine ⟨o, ho, e, he, hb.1, ?_⟩
        cases hq : listed.getD e.on true with
        | false => exact getD_both hq
        | true =>
          have := hc e.on o' ho' hq e' he' hb'
          rw [hl'] at this
          cases this
      · cases h
/-- What is left when those that only read have come up: n and what is behind it, one behind the other. -/
def stillHead (ops : Array Oper) (n g : Nat) : List Nat → Array Bool → Bool
  | [], listed => Region.seqB .any ops (g + 1) n listed
  | i :: is, listed => (Region.ready .any ops listed).contains i && Region.free .any ops listed i && (waitsT ops ops.size n i && closedB ops listed) && stillHead ops n g is (listed.setIfInBounds i true)
def pureHead (ops : Array Oper) (n g : Nat) (ss : List Nat) : List Nat → Array Bool → Bool
  | [], listed => stillHead ops n g ss listed
  | i :: is, listed => (Region.ready .any ops listed).contains i && Region.free .any ops listed i && (match ops[i]? with | some o => pureOp o.op | none => false) && pureHead ops n g ss is (listed.setIfInBounds i true)
def floatB (ops : Array Oper) (ps ss : List Nat) (n g : Nat) : Bool :=
  Region.noSelect ops && decide (ps.length + (ss.length + (g + 1)) = ops.size) && decide (n + (g + 1) = ops.size) && pureHead ops n g ss ps (Array.replicate ops.size false)

section
variable {P : Program} {nro n base : Nat} {γ : Nat → Option Nat} {m : List Ent} {H : AH} {α : Fm} {a : Act} {w : World} {Q : Exit → Fm → AH → Prop} {ops : Array Oper}

def wpAnyN (P : Program) (ops : Array Oper) (w : World) (L : Array Bool → Act → Prop) : Nat → Array Bool → Act → Prop
  | 0, listed, a => L listed a
  | f + 1, listed, a =>
    Region.ready .any ops listed ≠ [] ∧ ∀ i ∈ Region.ready .any ops listed, stOp P ops w i (wpAnyN P ops w L f (listed.setIfInBounds i true)) a
theorem wpAny_of_headN {g : Nat} {L : Array Bool → Act → Prop} {Q' : Exit → Act → World → Prop} (hL : ∀ listed a, L listed a → wpAny P .any ops Q' g listed a w) :
    ∀ (f : Nat) (listed : Array Bool) (a : Act), wpAnyN P ops w L f listed a → wpAny P .any ops Q' (f + g) listed a w
  | 0, listed, a, h => by rw [Nat.zero_add]; exact hL _ _ h
  | f + 1, listed, a, h => by
    rw [show f + 1 + g = (f + g) + 1 by omega]
    exact ⟨fun h0 => absurd h0 h.1, fun i hi => wpOp_of_stOp (fun a' h' => wpAny_of_headN hL f _ a' h') (h.2 i hi)⟩
theorem wpAnyN_first {i : Nat} {oi : Oper} {v : Value} {L : Array Bool → Act → Prop} (hi : ops[i]? = some oi) (hsel : ∀ (j : Nat) (o : Oper) cs b, ops[j]? = some o → o.op ≠ .select cs b)
    (hdone : ∀ listed a, L listed a → ∀ j ∈ Region.ready .any ops listed, waitsT ops ops.size j i = true) :
    ∀ (f : Nat) (listed : Array Bool) (a : Act), Closed ops listed →
      (∀ j oj, ops[j]? = some oj → j ≠ i → listed.getD j true = false → (∀ e ∈ oj.after, Region.binds .any e = true → e.on ≠ i) → oi.apart ops oj = true) →
      i ∈ Region.ready .any ops listed → YieldsAt P ops w oi v a →
      wpAnyN P ops w L f (listed.setIfInBounds i true) (a.put oi.dst v) → wpAnyN P ops w L (f + 1) listed a := by
  intro f
  induction f with
  | zero =>
    intro listed a hcl _ hr hy H
    have hun := (mem_ready.1 hr).1
    refine ⟨fun h => (by rw [h] at hr; cases hr), fun j hj => ?_⟩
    by_cases hji : j = i
    · subst hji; exact hy.stOp hi H
    · obtain ⟨o, ho, e, he, hb, hon⟩ := waitsT_spec hcl hun _ _ (hdone _ _ H j (ready_mono hj hji))
      obtain ⟨_, oj, hoj, hall⟩ := mem_ready.1 hj
      have : oj = o := Option.some.inj (hoj.symm.trans ho)
      subst this
      have h1 := hall e he hb
      rw [hon] at h1
      cases h1
  | succ f ih =>
    intro listed a hcl hfree hr hy H
    have hun := (mem_ready.1 hr).1
    refine ⟨fun h => (by rw [h] at hr; cases hr), fun j hj => ?_⟩
    by_cases hji : j = i
    · subst hji; exact hy.stOp hi H
    · have h1 := H.2 j (ready_mono hj hji)
      obtain ⟨hjun, oj, hoj, hall⟩ := mem_ready.1 hj
      have hnot : ∀ e ∈ oj.after, Region.binds .any e = true → e.on ≠ i := fun e he hb heq => by
        have h1 := hall e he hb
        rw [heq, getD_both hun] at h1
        cases h1
      have h2 := stOp_put hoj (hfree j oj hoj hji hjun hnot) (fun cs b => hsel i oi cs b hi) (fun cs b => hsel j oj cs b hoj) hy h1
      have hfree' : ∀ k ok, ops[k]? = some ok → k ≠ i → (listed.setIfInBounds j true).getD k true = false →
          (∀ e ∈ ok.after, Region.binds .any e = true → e.on ≠ i) → oi.apart ops ok = true := fun k ok hk hki hun hno => by
        refine hfree k ok hk hki ?_ hno
        by_cases hjk : j = k
        · subst hjk; exact hjun
        · rw [getD_set_ne true hjk] at hun; exact hun
      refine stOp_mono (fun a' h3 => ih (listed.setIfInBounds j true) a' (hcl.put hoj hall) hfree' (ready_mono hr (Ne.symm hji)) h3.1 ?_) h2
      rw [Array.setIfInBounds_comm _ _ hji]
      exact h3.2
theorem wpAnyN_lex {n g : Nat} {Lq : Act → Prop} (hsel : Region.noSelect ops = true) (l : List Oper) (hl : l.toArray = ops) : ∀ (is : List Nat) (listed : Array Bool) (a : Act),
    stillHead ops n g is listed = true → wpStill P ops w Lq (sel l is) a →
    wpAnyN P ops w (fun listed' a' => Region.seqB .any ops (g + 1) n listed' = true ∧ Lq a') is.length listed a
  | [], listed, a, hB, h => ⟨by simpa [stillHead] using hB, h⟩
  | i :: is, listed, a, hB, h => by
    simp only [stillHead, Bool.and_eq_true] at hB
    obtain ⟨⟨⟨hr, hf⟩, hw, hcl⟩, hB'⟩ := hB
    have hr' : i ∈ Region.ready .any ops listed := by simpa using hr
    obtain ⟨_, oi, hoi, _⟩ := mem_ready.1 hr'
    have hli : l[i]? = some oi := by rw [← hoi, ← hl]; simp
    simp only [sel, hli] at h
    have hst : stOp P ops w i (wpStill P ops w Lq (sel l is)) a := by unfold stOp; simp only [hoi]; exact h
    obtain ⟨v, hy, hK⟩ := yieldsAt_of_stOp hoi hst
    refine wpAnyN_first hoi (Region.noSelect_spec hsel) (fun listed' a' hL j hj => ?_) is.length listed a (closedB_spec hcl) (Region.free_spec hoi hf) hr' hy
      (wpAnyN_lex hsel l hl is _ _ hB' hK)
    have h1 := hL.1
    simp only [Region.seqB, Bool.and_eq_true, decide_eq_true_eq] at h1
    rw [h1.1] at hj
    have : j = n := by simpa using hj
    rw [this]; exact hw

/-- An operation that looks at no memory: in whatever world. -/
theorem xread_all {o : Oper} {v : Value} (hp : pureOp o.op = true) (hok : o.op.operands.all (okOpd n γ) = true) (h : xread P γ o.op α H = some v) (hR : Rel nro base γ m H w) (hF : FR n m α a) :
    ∃ v', V m v v' ∧ ∀ w', (execOp a.eval o).run P w' = .ok (.value v') w' := by
  obtain ⟨dst, op, type, pos, after, guard⟩ := o
  simp only at hok h hp
  have ev : ∀ x ∈ op.operands, V m (α.eval γ x) (a.eval x) := fun x hx => hF.eval hR (by
    obtain ⟨i, hi, rfl⟩ := Array.mem_iff_getElem.1 hx
    exact (Array.all_eq_true.1 hok) i hi)
  unfold xread at h
  split at h
  · rename_i x
    cases h
    exact ⟨_, ev x (by simp [Op.operands]), fun w' => by simp [execOp]⟩
  · rename_i x
    cases h
    exact ⟨_, ev x (by simp [Op.operands]), fun w' => by simp [execOp]⟩
  · rename_i c x y
    split at h
    case h_2 => cases h
    rename_i t ht
    cases h
    have hc := ev c (by simp [Op.operands])
    rw [ht] at hc
    have hc := hc.eq rfl
    refine ⟨if t then a.eval x else a.eval y, ?_, fun w' => ?_⟩
    · cases t
      · exact ev y (by simp [Op.operands])
      · exact ev x (by simp [Op.operands])
    · cases t <;> simp [execOp, hc, asBool]
  · rename_i op t x y _
    have hx := ev x (by simp [Op.operands])
    have hy := ev y (by simp [Op.operands])
    split at h
    · rename_i v' hq
      cases h
      obtain ⟨_, p1, p2, p3⟩ := xeqA_run hq x y w
      rw [← hx.eq p1, ← hy.eq p2] at hq
      exact ⟨v, plainV_mk p3, fun w' => run_v (xeqA_run hq x y w').1⟩
    split at h
    case h_2 => exact ⟨v, plainV_mk (xnil_run hx hy h x y w).2, fun w' => run_v (xnil_run hx hy h x y w').1⟩
    rename_i v1 hq1
    cases h
    have h := hq1
    clear hq1
    have hp : plainV (α.eval γ x) = true ∧ plainV (α.eval γ y) = true := by
      unfold xbin at h
      split at h <;> first | (cases h; done) | (rename_i e1 e2; rw [e1, e2]; exact ⟨rfl, rfl⟩) | (constructor <;> simp [*, plainV, plain2, plain1])
    have hpl := xbin_plain h
    rw [← hx.eq hp.1, ← hy.eq hp.2] at h
    exact ⟨v, plainV_mk hpl, fun w' => run_v (xbin_run h x y w')⟩
  · rename_i op t x
    have hx := ev x (by simp [Op.operands])
    have hp : plainV (α.eval γ x) = true ∧ plainV v = true := by
      unfold xun at h
      split at h <;> cases h <;> (constructor <;> simp [*, plainV, plain2, plain1])
    rw [← hx.eq hp.1] at h
    exact ⟨v, plainV_mk hp.2, fun w' => run_v (xun_run h w')⟩
  · cases hp
  · cases hp
  · rename_i t x f
    obtain ⟨v', h1, h2⟩ := xfieldAddr_run (ev x (by simp [Op.operands])) h
    exact ⟨v', h1, fun w' => run_v (h2 w')⟩
  · rename_i t x f
    obtain ⟨v', h1, h2⟩ := xfield_run (ev x (by simp [Op.operands])) h
    exact ⟨v', h1, fun w' => run_v (h2 w')⟩
  · rename_i t x i
    obtain ⟨v', h1, h2⟩ := xindexAddr_run (ev x (by simp [Op.operands])) (ev i (by simp [Op.operands])) h
    exact ⟨v', h1, fun w' => run_v (h2 w')⟩
  · rename_i t x i
    obtain ⟨v', h1, h2⟩ := xindex_run (ev x (by simp [Op.operands])) (ev i (by simp [Op.operands])) h
    exact ⟨v', h1, fun w' => run_v (h2 w')⟩
  · cases hp
  · rename_i x i
    split at h
    case h_2 => cases h
    rename_i vs hvs
    have hx := ev x (by simp [Op.operands])
    rw [hvs] at hx
    obtain ⟨ds, he, hs, hv⟩ := hx.tup_
    obtain ⟨y, hy, hyv⟩ := hv _ _ h
    refine ⟨y, .two hyv, fun w' => run_v ?_⟩
    simp [he, Instr.extract, hy]
  · rename_i x
    split at h
    case h_2 => cases h
    rename_i ad hvs
    cases h
    have hx := ev x (by simp [Op.operands])
    rw [hvs] at hx
    refine ⟨a.eval x, hx, fun w' => ?_⟩
    have hp : ∃ ad', a.eval x = .pointer (some ad') := by
      generalize a.eval x = z at hx
      cases hx with
      | two h => cases h with
        | one h => cases h with
          | plain h => cases h
          | ptr h => exact ⟨_, rfl⟩
    obtain ⟨ad', hp⟩ := hp
    simp [execOp, hp]
  all_goals first
    | (cases hp; done)
    | (cases h; done)

theorem SL.sound_pure {n' g : Nat} {l : List Oper} (hl : l.toArray = ops) (hok : okL n γ l = true) {ss : List Nat} {Qk : Fm → Prop} {Q' : Exit → Act → World → Prop} (hQ : ∀ c a w, ¬ Q' (.panic c) a w) (hsel : Region.noSelect ops = true)
    (hR : Rel nro base γ m H w) {F : Nat} (hK : ∀ a α listed, FR n m α a → stillHead ops n' g ss listed = true → Qk α → wpAny P .any ops Q' F listed a w) :
    ∀ (ps : List Nat) (listed : Array Bool) (α : Fm) (a : Act), pureHead ops n' g ss ps listed = true → FR n m α a → SL P n γ ops Qk H (sel l ps) α → wpAny P .any ops Q' (ps.length + F) listed a w
  | [], listed, α, a, hB, hF, h => by
    simp only [List.length_nil, Nat.zero_add]
    exact hK a α listed hF hB h
  | i :: ps, listed, α, a, hB, hF, h => by
    simp only [pureHead, Bool.and_eq_true] at hB
    obtain ⟨⟨⟨hr, hf⟩, hp⟩, hB'⟩ := hB
    have hr' : i ∈ Region.ready .any ops listed := by simpa using hr
    obtain ⟨_, oi, hoi, _⟩ := mem_ready.1 hr'
    have hli : l[i]? = some oi := by rw [← hoi, ← hl]; simp
    simp only [hoi] at hp
    have hoki : oi.op.operands.all (okOpd n γ) = true := by
      have := List.all_eq_true.1 hok oi (List.mem_of_getElem? hli)
      exact this
    simp only [sel, hli] at h
    unfold SL at h
    rw [show (i :: ps).length + F = (ps.length + F) + 1 by simp; omega]
    split at h
    · exact h.elim
    · rename_i hw
      have hwt := wantedA_spec hF hw
      exact wpAny_take hoi hsel hf hr (fun c a w h => absurd h (hQ c _ w)) (.inr ⟨hwt, rfl⟩) (SL.sound_pure hl hok hQ hsel hR hK ps _ _ _ hB' (hF.put (plainV_mk plainV_undef)) h)
    · rename_i hw
      have hwt := wantedA_spec hF hw
      split at h
      · rename_i v hx
        obtain ⟨v', h1, h2⟩ := xread_all hp hoki hx hR hF
        exact wpAny_take hoi hsel hf hr (fun c a w h => absurd h (hQ c _ w)) (.inl ⟨hwt, h2⟩) (SL.sound_pure hl hok hQ hsel hR hK ps _ _ _ hB' (hF.put h1) h)
      · exact h.elim
theorem okL_sel {l : List Oper} (h : okL n γ l = true) : ∀ is, okL n γ (sel l is) = true
  | [] => rfl
  | i :: is => by
    unfold sel
    split
    · rename_i o ho
      have h1 := List.all_eq_true.1 h o (List.mem_of_getElem? ho)
      have h2 := okL_sel h is
      simp only [okL, List.all_cons, Bool.and_eq_true] at h2 ⊢
      exact ⟨h1, h2⟩
    · rfl
/-- Such a region. -/
theorem aw_float {id : Nat} {l : List Oper} (ps ss : List Nat) (k g : Nat) (hm : P.follows .mixedOrders = true) (hB : floatB l.toArray ps ss k g = true) (hok : okL n γ l = true)
    (h : ∀ K : Fm → AH → Prop, (∀ α' H', Q .normal α' H' → K α' H') → SL P n γ l.toArray (fun α1 => SL P n γ l.toArray (fun α' => XL P nro n γ l.toArray K (l.drop k) α' H) H (sel l ss) α1) H (sel l ps) α) :
    AW P nro n γ (.region id l.toArray true) Q α H := by
  intro m base w a hR hF
  simp only [floatB, Bool.and_eq_true, decide_eq_true_eq] at hB
  obtain ⟨⟨⟨hsel, hn1⟩, hn2⟩, hph⟩ := hB
  refine wp_region_noPanic (wp_region_any hm ?_)
  have hR' : Rel nro base γ m H { w with drawn := w.drawn + 1 } := hR.drewN 1
  rw [← hn1]
  have hph' : pureHead l.toArray k g ss ps (Array.replicate (ps.length + (ss.length + (g + 1))) false) = true := by rw [hn1]; exact hph
  refine SL.sound_pure rfl hok (fun c a w h => h) hsel hR' (fun a1 α1 listed1 hF1 hst hq => ?_) ps _ α a hph' hF (h _ fun _ _ h => h)
  have hdl : (l.drop k).length = g + 1 := by
    have : l.toArray.size = l.length := by simp
    simp; omega
  refine wpAny_of_headN (L := fun listed' a' => Region.seqB .any l.toArray (g + 1) k listed' = true ∧ wpList P l.toArray (NoPanic (Con nro n γ m base w Q)) (l.drop k) a' { w with drawn := w.drawn + 1 }) (fun listed a' hL => ?_) ss.length listed1 a1 ?_
  · have := wpAny_of_seq (md := .any) (Q' := NoPanic (Con nro n γ m base w Q)) (l.drop k) k listed a' { w with drawn := w.drawn + 1 } (fun j => by simp [List.getElem?_drop]) (by rw [hdl]; exact hL.1) hL.2
    rwa [hdl] at this
  · refine wpAnyN_lex hsel l rfl ss listed1 a1 hst ?_
    refine SL.sound hR' (fun a' α' hF' hq' => ?_) (sel l ss) α1 a1 (okL_sel hok ss) hF1 hq
    have := XL.sound (Q := fun e α H => match e with | .panic _ => False | e => Q e α H) _ _ _ (okL_take hok k).2 hq' m base _ a' hR' hF'
    refine wpList_mono (fun e a w' hc => ?_) _ _ _ this
    have hc' := Con.trans (w := { w with drawn := w.drawn + 1 }) List.prefix_rfl (Below.drew (.refl base w)) hc
    cases e with
    | panic c => obtain ⟨_, _, _, _, _, _, _, hf⟩ := hc'; exact hf
    | _ => exact hc'
end
end Go.Proofs.YtjfhdckcjkgjnaaDoor
