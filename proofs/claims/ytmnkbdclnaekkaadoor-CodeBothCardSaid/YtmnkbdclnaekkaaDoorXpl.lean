/-
  A region whose order is drawn: a plan (XXm), of which some operations, that only read, may come up behind the first stores; what is left then, each order told. Over any program.
-/
import Derived.Test.YtmnkbdclnaekkaaDoorXor
namespace Go.Proofs.YtmnkbdclnaekkaaDoor
open Go Go.RowKit
set_option linter.unusedVariables false
set_option linter.unusedSimpArgs false

def subsL : List Nat → List (List Nat)
  | [] => [[]]
  | i :: l => subsL l ++ (subsL l).map (i :: ·)
theorem filter_subs (p : Nat → Bool) : ∀ l : List Nat, l.filter p ∈ subsL l
  | [] => by simp [subsL]
  | i :: l => by
    have := filter_subs p l
    rw [List.filter_cons]
    split
    · simp only [subsL, List.mem_append, List.mem_map]
      exact .inr ⟨_, this, rfl⟩
    · simp only [subsL, List.mem_append]
      exact .inl this
/-- The temporaries of these as they were. -/
def mixF (ts : List Tmp) (α α' : Fm) : Fm := fun t => if ts.contains t = true then α t else α' t
theorem mixF_at (ts : List Tmp) (α α' : Fm) (t : Tmp) : mixF ts α α' t = if ts.contains t = true then α t else α' t := rfl
theorem mixF_nil (α α' : Fm) : mixF [] α α' = α' := by funext t; simp [mixF]
section
variable {ops : Array Oper} {val : Nat → Value}
theorem endF_none : ∀ (hs : List Nat) (α : Fm) (t : Tmp), (∀ j ∈ hs, dstO ops j ≠ some t) → endF ops val hs α t = α t
  | [], α, t, _ => rfl
  | i :: hs, α, t, h => by
    show endF ops val hs (α.put (dstO ops i) (val i)) t = _
    rw [endF_none hs _ t fun j hj => h j (by simp [hj])]
    exact put_ne (h i (by simp))
theorem endF_some : ∀ (hs : List Nat) (α : Fm) (t : Tmp) (j : Nat), hs.Nodup → j ∈ hs → dstO ops j = some t → (∀ j' ∈ hs, j' ≠ j → dstO ops j' ≠ some t) → endF ops val hs α t = val j
  | i :: hs, α, t, j, hnd, hj, hd, ho => by
    rw [List.nodup_cons] at hnd
    show endF ops val hs (α.put (dstO ops i) (val i)) t = _
    rcases List.mem_cons.1 hj with rfl | hj
    · rw [endF_none hs _ t fun j' hj' => ho j' (by simp [hj']) (fun e => hnd.1 (e ▸ hj')), hd]
      simp [Fm.put]
    · exact endF_some hs _ t j hnd.2 hj hd fun j' hj' hne => ho j' (by simp [hj']) hne
end
section
variable {c : PCtx} {listed : Array Bool} {a : Act} {w : World} {E : Nat → Option Ent}
theorem PInv.finishD (hc : c.Ok) (h : PInv c listed a w E) (hdone : ∀ i ∈ c.hs, (c.nb i).isSome = true → listed.getD i false = true) :
    ∃ m', c.m <+: m' ∧ Rel c.nro c.base c.γ m' (c.H ++ (endN c.nb c.hs []).map some) w ∧ FR c.n m' (endF c.ops c.val (c.hs.filter fun i => listed.getD i false) c.α) a := by
  have hnd : c.hs.Nodup := hc.sorted.imp (fun h => Nat.ne_of_lt h)
  have hcov : ∀ j, j < (endN c.nb c.hs []).length → ∃ e, E j = some e := by
    intro j hj
    obtain ⟨i, hi, k1, k2⟩ := Planned.cover c.hs c.α [] hc.plan j (Nat.zero_le _) hj
    have := h.all i hi (hdone i hi k2) k2
    rw [k1] at this
    exact Option.isSome_iff_exists.1 this
  obtain ⟨N, hN⟩ : ∃ N, N = endN c.nb c.hs [] := ⟨_, rfl⟩
  let mN := (List.range N.length).map fun j => (E j).getD ⟨0, 0, 0, none⟩
  have hmN : ∀ j e, j < N.length → E j = some e → mN[j]? = some e := by
    intro j e hj he
    simp [mN, hj, he]
  have hget : ∀ (j : Nat) (e : Ent), mN[j]? = some e → j < N.length ∧ E j = some e := by
    intro j e he
    have hj : j < N.length := by
      have := (List.getElem?_eq_some_iff.1 he).1
      simpa [mN] using this
    obtain ⟨e', he'⟩ := hcov j (by rw [← hN]; exact hj)
    have := hmN j e' hj he'
    rw [he] at this
    cases this
    exact ⟨hj, he'⟩
  have hlow : ∀ (i : Nat) (e : Ent), c.m[i]? = some e → e.b < c.w0.heap.size := hc.rel.inb
  refine ⟨c.m ++ mN, List.prefix_append _ _, ?_, ?_⟩
  · rw [← hN]
    refine Rel.addAll N mN c.m c.H (hc.rel.below h.below) (by simp [mN]) (fun j b e hj he => ?_) (fun i j e e' hi he => ?_) (fun i j e e' hne h1 h2 => ?_)
    · obtain ⟨h1, h2⟩ := hget j e he
      obtain ⟨k1, b', k2, k3⟩ := h.ent j e h2
      rw [← hN, hj] at k2
      cases k2
      exact ⟨k3, Nat.le_trans hc.rel.base_le k1⟩
    · have := hlow i e hi
      have := (h.ent j e' (hget j e' he).2).1
      omega
    · exact h.dist i j e e' hne (hget i e h1).2 (hget j e' h2).2
  · refine ⟨h.dfr, h.size, fun t ht => ?_⟩
    have hndf := hnd.sublist (List.filter_sublist (l := c.hs) (p := fun i => listed.getD i false))
    have hmf : ∀ j, j ∈ c.hs.filter (fun i => listed.getD i false) ↔ j ∈ c.hs ∧ listed.getD j false = true := fun j => by rw [List.mem_filter]
    by_cases hw : ∃ j ∈ c.hs.filter (fun i => listed.getD i false), dstO c.ops j = some t
    · obtain ⟨j, hj, hd⟩ := hw
      rw [endF_some _ _ t j hndf hj hd fun j' hj' hne => hc.dst ((hmf j).1 hj).1 ((hmf j').1 hj').1 (Ne.symm hne) hd]
      obtain ⟨hj1, hj2⟩ := (hmf j).1 hj
      obtain ⟨oj, hoj, hdj⟩ : ∃ oj, c.ops[j]? = some oj ∧ oj.dst = some t := by
        unfold dstO at hd
        cases hq : c.ops[j]? with
        | none => rw [hq] at hd; cases hd
        | some oj => rw [hq] at hd; exact ⟨oj, rfl, hd⟩
      rcases h.got j hj1 oj t hoj hj2 hdj ht with h3 | ⟨_, h4⟩
      · exact h3.mono (List.prefix_append _ _)
      · refine h4.v (fun j e he => ?_) (fun j e he => (h.ent j e he).2.choose_spec.2.1)
        rw [← hc.rel.len, List.getElem?_append_right (Nat.le_add_right _ _), Nat.add_sub_cancel_left]
        obtain ⟨_, b, hb, _⟩ := h.ent j e he
        exact hmN j e (by rw [hN]; exact (List.getElem?_eq_some_iff.1 hb).1) he
    · have hw' : ∀ j ∈ c.hs.filter (fun i => listed.getD i false), dstO c.ops j ≠ some t := fun j hj hd => hw ⟨j, hj, hd⟩
      rw [endF_none _ _ t hw']
      exact (h.old t ht fun i hi hl => hw' i ((hmf i).2 ⟨hi, hl⟩)).mono (List.prefix_append _ _)
theorem plan_runL (hc : c.Ok) (ls : List Nat) {Q' : Exit → Act → World → Prop} {g : Nat} (hwait : ∀ (j : Nat) (oj : Oper), c.ops[j]? = some oj → c.listed0.getD j true = false → j ∉ c.hs → ∀ i ∈ c.hs, i ∉ ls → waitsT c.ops c.ops.size j i = true)
    (hend : ∀ listed a w E, PInv c listed a w E → (∀ i ∈ c.hs, i ∉ ls → listed.getD i false = true) → wpAny c.P .any c.ops Q' ((c.hs.filter fun i => !listed.getD i false).length + g) listed a w) :
    ∀ (f : Nat) (listed : Array Bool) (a : Act) (w : World) (E : Nat → Option Ent), PInv c listed a w E → (c.hs.filter fun i => !listed.getD i false).length = f → wpAny c.P .any c.ops Q' (f + g) listed a w := by
  have hnd : c.hs.Nodup := hc.sorted.imp (fun h => Nat.ne_of_lt h)
  intro f
  induction f with
  | zero =>
    intro listed a w E h hf
    have hdone : ∀ i ∈ c.hs, listed.getD i false = true := by
      intro i hi
      have h0 := List.eq_nil_of_length_eq_zero hf
      cases hq : listed.getD i false with
      | true => rfl
      | false =>
        have : i ∈ c.hs.filter fun i => !listed.getD i false := List.mem_filter.2 ⟨hi, by rw [hq]; rfl⟩
        rw [h0] at this; cases this
    have := hend listed a w E h fun i hi _ => hdone i hi
    rwa [hf] at this
  | succ f ih =>
    intro listed a w E h hf
    by_cases hall : ∀ i ∈ c.hs, i ∉ ls → listed.getD i false = true
    · have := hend listed a w E h hall
      rwa [hf] at this
    obtain ⟨iz, hiz, hizl, hizu⟩ : ∃ i, i ∈ c.hs ∧ i ∉ ls ∧ listed.getD i false = false := by
      apply Classical.byContradiction
      intro hn
      refine hall fun i hi hil => ?_
      cases hq : listed.getD i false with
      | true => rfl
      | false => exact absurd ⟨i, hi, hil, hq⟩ hn
    have hex : ∃ i, i ∈ c.hs ∧ listed.getD i false = false := ⟨iz, hiz, hizu⟩
    obtain ⟨i0, ⟨hi0, hl0⟩, hmin⟩ := least hex
    have hlt0 : i0 < listed.size := by
      have k1 := hc.head i0 hi0
      unfold opOkB at k1
      split at k1
      · rename_i o ho
        rw [h.lsz]; exact (Array.getElem?_eq_some_iff.1 ho).1
      · cases k1
    have hr0 : i0 ∈ Region.ready .any c.ops listed := by
      rw [mem_ready]
      have k1 := hc.head i0 hi0
      unfold opOkB at k1
      split at k1
      case h_2 => cases k1
      rename_i o ho
      simp only [Bool.and_eq_true] at k1
      refine ⟨getD_in hlt0 hl0, o, ho, fun e he hb => ?_⟩
      have k2 := Array.all_eq_true_iff_forall_mem.1 k1.2 e he
      rw [hb] at k2
      simp only [Bool.not_true, Bool.false_or, Bool.or_eq_true, Bool.and_eq_true, decide_eq_true_eq, List.contains_iff_mem] at k2
      rcases k2 with k2 | ⟨k2, k3⟩
      · exact h.sub _ k2
      · cases hq : listed.getD e.on false with
        | true => rfl
        | false => exact absurd ⟨k2, hq⟩ (hmin _ k3)
    rw [show f + 1 + g = (f + g) + 1 by omega]
    refine ⟨fun h0 => absurd hr0 (by rw [h0]; simp), fun j hj => ?_⟩
    obtain ⟨hjun, oj, hoj, hjall⟩ := mem_ready.1 hj
    by_cases hjh : j ∈ c.hs
    · refine plan_step hc h hjh hj fun a' w' E' h' => ih _ a' w' E' h' ?_
      have hfe : (c.hs.filter fun i => !(listed.setIfInBounds j true).getD i false) = (c.hs.filter fun i => !listed.getD i false).erase j := by
        rw [(hnd.sublist List.filter_sublist).erase_eq_filter, List.filter_filter]
        apply List.filter_congr
        intro x hx
        by_cases e : j = x
        · subst e
          have : j < listed.size := by rw [h.lsz]; exact (Array.getElem?_eq_some_iff.1 hoj).1
          rw [getD_set_self this]; simp
        · rw [getD_set_ne false e]
          simp [Ne.symm e]
      rw [hfe, List.length_erase_of_mem (List.mem_filter.2 ⟨hjh, by rw [getD_both hjun]; rfl⟩), hf]
      rfl
    · exfalso
      have hj0 : c.listed0.getD j true = false := by
        have hjlt : j < c.listed0.size := by rw [hc.size0]; exact (Array.getElem?_eq_some_iff.1 hoj).1
        refine getD_in hjlt ?_
        cases hq : c.listed0.getD j false with
        | false => rfl
        | true => have := h.sub j hq; rw [getD_both hjun] at this; cases this
      have k2 := hwait j oj hoj hj0 hjh iz hiz hizl
      have hltz : iz < listed.size := by
        have k1 := hc.head iz hiz
        unfold opOkB at k1
        split at k1
        · rename_i o ho
          rw [h.lsz]; exact (Array.getElem?_eq_some_iff.1 ho).1
        · cases k1
      obtain ⟨o2, ho2, e, he, hb, hl⟩ := waitsT_spec h.closed (getD_in hltz hizu) _ _ k2
      obtain rfl : oj = o2 := Option.some.inj (hoj.symm.trans ho2)
      rw [hjall e he hb] at hl
      cases hl
end
section
variable {P : Program} {nro n base : Nat} {γ : Nat → Option Nat} {m : List Ent} {H : AH} {α : Fm} {a : Act} {w : World} {Q : Exit → Fm → AH → Prop} {ops : Array Oper}
theorem orders_runL {l : List Oper} (hl : l.toArray = ops) (hok : okL n γ l = true) {K : Fm → AH → Prop} (hK : ∀ α H, K α H → Q .normal α H) {w0 : World} {m0 : List Ent} : ∀ (f : Nat) (listed : Array Bool) (os : List (List Nat)) (α : Fm) (H : AH) (m : List Ent) (w : World) (a : Act), (∀ i o, listed.getD i true = false → ops[i]? = some o → isCallG o.op = false) →
    ordersB ops f listed os = true → (∀ o ∈ os, XL P nro n γ ops K (sel l o) α H) → m0 <+: m → Rel nro base γ m H w → FR n m α a → Below base w0 w → wpAny P .any ops (Con nro n γ m0 base w0 Q) f listed a w
  | 0, listed, os, α, H, m, w, a, hnc, hB, h, hm, hR, hF, hb => by
    simp only [ordersB, Bool.and_eq_true, List.contains_iff_mem, List.isEmpty_iff] at hB
    exact ⟨hB.1, m, α, H, hm, hR, hF, hb, hK _ _ (h [] hB.2)⟩
  | f + 1, listed, os, α, H, m, w, a, hnc, hB, h, hm, hR, hF, hb => by
    simp only [ordersB, Bool.and_eq_true] at hB
    refine ⟨fun h0 => (by rw [h0] at hB; simp at hB), fun i hi => ?_⟩
    have hBi := List.all_eq_true.1 hB.2 i hi
    obtain ⟨hiu, o, ho, _⟩ := mem_ready.1 hi
    have hli : l[i]? = some o := by rw [← ho, ← hl]; simp
    have hmem := List.mem_of_getElem? hli
    have hoko : o.op.operands.all (okOpd n γ) = true := List.all_eq_true.1 hok o hmem
    have hco : isCallG o.op = false := hnc i o hiu ho
    have hnc' : ∀ i' o', (listed.setIfInBounds i true).getD i' true = false → ops[i']? = some o' → isCallG o'.op = false := fun i' o' h1 h2 => by
      refine hnc i' o' ?_ h2
      by_cases e : i = i'
      · subst e
        have : i < listed.size := by
          rcases Nat.lt_or_ge i listed.size with h3 | h3
          · exact h3
          · simp [Array.getElem?_eq_none h3] at hiu
        simp [this] at h1
      · rwa [getD_set_ne true e] at h1
    have hx : ∀ r ∈ behind i os, XL P nro n γ ops K (o :: sel l r) α H := fun r hr => by
      have := h _ (behind_mem hr)
      simpa only [sel, hli] using this
    obtain ⟨r0, hr0⟩ := orders_ne f _ _ hBi
    have hstep := hx r0 hr0
    rw [XL_cons, step1_eq] at hstep
    unfold wpOp
    simp only [ho]
    cases hw : wantedA ops n α o with
    | none => rw [hw] at hstep; exact hstep.elim
    | some b =>
      rw [wantedA_spec hF hw]
      cases b with
      | false =>
        simp only [Bool.false_eq_true, if_false]
        refine orders_runL hl hok hK f _ _ _ H m w _ hnc' hBi (fun r hr => ?_) hm hR (hF.put (plainV_mk plainV_undef)) hb
        have := hx r hr
        rw [XL_cons, step1_eq, hw] at this
        exact this
      | true =>
        rw [hw, stepW_t] at hstep
        cases hc : calleeOf γ α o.op with
        | some c => have := (isCallG_f hco).1; rw [callee_isCall hc] at this; cases this
        | none =>
          rw [hc, stepC_n] at hstep
          cases hxo : xop P nro γ o.op α H with
          | none =>
            rw [hxo, stepX_n] at hstep
            cases hcx : calleeX γ α o.op with
            | none => rw [hcx] at hstep; exact hstep.elim
            | some c => have := calleeX_isT hcx; rw [(isCallG_f hco).2] at this; cases this
          | some vH =>
            obtain ⟨v, H'⟩ := vH
            obtain ⟨m', x, w', v', h1, h2, h3, h4, h5, h6⟩ := xop_av hoko hxo m base w a hR hF
            simp only [if_true]
            refine .inl ?_
            have hnext := orders_runL hl hok hK f _ _ (α.put o.dst v) H' m' w' (a.put o.dst v') hnc' hBi (fun r hr => by
              have := hx r hr
              rw [XL_cons, step1_eq, hw, stepW_t, hc, stepC_n, hxo] at this
              exact this) (hm.trans h3) h5 ((hF.mono h3).put h4) (hb.trans h6)
            unfold Oper.wp
            rw [h1]
            rcases h2 with rfl | ⟨rfl, rfl⟩
            · exact hnext
            · exact hnext
def leftL (hs u : List Nat) : List Nat := hs.filter fun i => !u.contains i
/-- hs: the plan; ls: those of them that may be late; tb: for each set of late ones their temporaries, and all orders of what is left. -/
def laterB (nd : List Tmp) (ops : Array Oper) (hs ls : List Nat) (g : Nat) (tb : List (List Nat × List Tmp × List (List Nat))) : Bool :=
  Region.noSelect ops && decide (hs.length + g = ops.size) && sortedB hs && closedB ops (Array.replicate ops.size false) && hs.all (opOkB nd ops hs (Array.replicate ops.size false)) &&
  decide (ls = hs.filter fun i => ls.contains i) && ls.all (fun i => hs.contains i && (match ops[i]? with | some o => !(newOp nd o) && !(isCallG o.op) | none => false)) &&
  (List.range ops.size).all (fun j => hs.contains j || ((match ops[j]? with | some o => !(isCallG o.op) | none => true) && hs.all fun i => ls.contains i || waitsT ops ops.size j i)) &&
  (subsL ls).all fun u => !closedB ops (setAll (leftL hs u) (Array.replicate ops.size false)) || tb.any fun p => decide (p.1 = u) && decide (u.map (dstO ops) = p.2.1.map some) && ordersB ops (u.length + g) (setAll (leftL hs u) (Array.replicate ops.size false)) p.2.2
theorem closedB_of {ops : Array Oper} {listed : Array Bool} (h : Closed ops listed) : closedB ops listed = true := by
  unfold closedB
  rw [List.all_eq_true]
  intro k hk
  cases hq : listed.getD k true with
  | false => simp
  | true =>
    cases ho : ops[k]? with
    | none => simp
    | some o =>
      simp only [Bool.not_true, Bool.false_or]
      rw [Array.all_eq_true_iff_forall_mem]
      intro e he
      cases hb : Region.binds .any e with
      | false => simp
      | true => simpa using h k o ho hq e he hb
/-- Such a region. -/
theorem aw_planL {id : Nat} {l : List Oper} (nd : List Tmp) (hs ls : List Nat) (g : Nat) (tb : List (List Nat × List Tmp × List (List Nat))) (hm : P.follows .mixedOrders = true) (hB : laterB nd l.toArray hs ls g tb = true) (hok : okL n γ l = true)
    (h : ∀ K : Fm → AH → Prop, (∀ α' H', Q .normal α' H' → K α' H') → PL P nro n γ nd l.toArray (fun α' N => ∀ p ∈ tb, ∀ o ∈ p.2.2, XL P nro n γ l.toArray K (sel l o) (mixF p.2.1 α α') (H ++ N.map some)) H (sel l hs) α []) :
    AW P nro n γ (.region id l.toArray true) Q α H := by
  intro m base w a hR hF
  simp only [laterB, Bool.and_eq_true, decide_eq_true_eq] at hB
  obtain ⟨⟨⟨⟨⟨⟨⟨⟨hsel, hn1⟩, hso⟩, hcl⟩, hop⟩, hlseq⟩, hls⟩, hwt⟩, htb⟩ := hB
  have hsorted := sortedB_spec hso
  have hnd : hs.Nodup := hsorted.imp (fun h => Nat.ne_of_lt h)
  refine wp_region_any hm ?_
  have hR' : Rel nro base γ m H { w with drawn := w.drawn + 1 } := hR.drewN 1
  obtain ⟨listed0, hl0⟩ : ∃ x, x = Array.replicate l.toArray.size false := ⟨_, rfl⟩
  rw [← hl0] at hcl hop htb ⊢
  have hsz : listed0.size = l.toArray.size := by rw [hl0]; simp
  have hfalse : ∀ x, listed0.getD x false = false := fun x => by rw [hl0]; simp [Array.getElem?_replicate]; split <;> rfl
  have hhlt : ∀ i ∈ hs, i < l.length := fun i hi => by
    have k1 := List.all_eq_true.1 hop i hi
    unfold opOkB at k1
    split at k1
    · rename_i o ho
      simpa using (Array.getElem?_eq_some_iff.1 ho).1
    · cases k1
  obtain ⟨val, nb, Ns, hpl, hK⟩ := PL.plan rfl hs α [] hnd hhlt (h _ fun _ _ h => h)
  let c : PCtx := ⟨P, nro, n, base, γ, nd, m, H, l.toArray, hs, α, { w with drawn := w.drawn + 1 }, listed0, val, nb, Ns⟩
  have hc : c.Ok := ⟨hR', fun i o ho => List.all_eq_true.1 hok o (List.mem_of_getElem? (i := i) (by have h2 : l.toArray[i]? = some o := ho; simpa using h2)), hsel, hsorted, fun i hi => List.all_eq_true.1 hop i hi, hsz, hpl⟩
  have hinv : PInv c listed0 a { w with drawn := w.drawn + 1 } (fun _ => none) :=
    ⟨hF.defers, hF.size, .refl _ _, hsz, fun x h => h, fun x h => .inl h, closedB_spec hcl, fun t ht _ => hF.val t ht, fun i hi o t ho hl => (by rw [hfalse i] at hl; cases hl), fun j e h => (by cases h), fun j j' e e' _ h => (by cases h), fun i hi hl => (by rw [hfalse i] at hl; cases hl), fun j e h => (by cases h)⟩
  have hlen : (hs.filter fun i => !listed0.getD i false).length = hs.length := by
    rw [List.filter_eq_self.2 fun i hi => by rw [hfalse i]; rfl]
  have hlsm : ∀ i ∈ ls, i ∈ hs ∧ ∃ o, l.toArray[i]? = some o ∧ newOp nd o = false ∧ isCallG o.op = false := fun i hi => by
    have k1 := List.all_eq_true.1 hls i hi
    simp only [Bool.and_eq_true, List.contains_iff_mem] at k1
    refine ⟨k1.1, ?_⟩
    have k2 := k1.2
    split at k2
    · rename_i o ho
      simp only [Bool.and_eq_true, Bool.not_eq_true'] at k2
      exact ⟨o, ho, k2.1, k2.2⟩
    · cases k2
  have hwait : ∀ (j : Nat) (oj : Oper), l.toArray[j]? = some oj → j ∉ hs → isCallG oj.op = false ∧ ∀ i ∈ hs, i ∉ ls → waitsT l.toArray l.toArray.size j i = true := fun j oj hoj hjh => by
    have k1 := List.all_eq_true.1 hwt j (List.mem_range.2 (Array.getElem?_eq_some_iff.1 hoj).1)
    rw [hoj] at k1
    simp only [Bool.or_eq_true, Bool.and_eq_true, List.contains_iff_mem, Bool.not_eq_true'] at k1
    rcases k1 with k1 | ⟨k1, k2⟩
    · exact absurd k1 hjh
    · refine ⟨k1, fun i hi hil => ?_⟩
      have := List.all_eq_true.1 k2 i hi
      simp only [Bool.or_eq_true, List.contains_iff_mem] at this
      rcases this with h3 | h3
      · exact absurd h3 hil
      · exact h3
  rw [← hn1]
  refine plan_runL hc ls (g := g) (fun j oj hoj _ hjh => (hwait j oj hoj hjh).2) (fun listed a2 w2 E2 hI hall => ?_) hs.length _ a _ _ hinv hlen
  have hall' : ∀ i ∈ hs, i ∉ ls → listed.getD i false = true := hall
  obtain ⟨u, hu⟩ : ∃ u, u = ls.filter (fun i => !listed.getD i false) := ⟨_, rfl⟩
  have hum : ∀ i, i ∈ u ↔ i ∈ ls ∧ listed.getD i false = false := fun i => by rw [hu, List.mem_filter]; simp
  have huf : (hs.filter fun i => !listed.getD i false) = u := by
    rw [hu]
    conv => rhs; rw [hlseq]
    rw [List.filter_filter]
    apply List.filter_congr
    intro x hx
    cases hq : listed.getD x false with
    | true => simp
    | false =>
      have : x ∈ ls := Classical.byContradiction fun hn => by rw [hall' x hx hn] at hq; cases hq
      simp [this]
  have hrm : ∀ x, x ∈ leftL hs u ↔ x ∈ hs ∧ listed.getD x false = true := fun x => by
    unfold leftL
    rw [List.mem_filter]
    constructor
    · rintro ⟨h1, h2⟩
      refine ⟨h1, ?_⟩
      cases hq : listed.getD x false with
      | true => rfl
      | false =>
        have hxl : x ∈ ls := Classical.byContradiction fun hn => by rw [hall' x h1 hn] at hq; cases hq
        have : u.contains x = true := List.contains_iff_mem.2 ((hum x).2 ⟨hxl, hq⟩)
        rw [this] at h2; cases h2
    · rintro ⟨h1, h2⟩
      refine ⟨h1, ?_⟩
      cases hq : u.contains x with
      | false => rfl
      | true =>
        have := ((hum x).1 (List.contains_iff_mem.1 hq)).2
        rw [h2] at this; cases this
  have hIonly : ∀ x, listed.getD x false = true → x ∈ hs := fun x hx => by
    rcases hI.only x hx with k | k
    · rw [hfalse x] at k; cases k
    · exact k
  have hsz2 : (setAll (leftL hs u) listed0).size = listed.size := by rw [setAll_size, hsz]; exact hI.lsz.symm
  have heq : listed = setAll (leftL hs u) listed0 := by
    apply Array.ext hsz2.symm
    intro x h1 h2
    have k1 := setAll_get (leftL hs u) listed0 x (by rw [hsz, ← hI.lsz]; exact h1)
    have e1 : listed.getD x false = listed[x] := by simp [h1]
    have e2 : (setAll (leftL hs u) listed0).getD x false = (setAll (leftL hs u) listed0)[x] := by simp [h2]
    rw [← e1, ← e2]
    cases hq : (setAll (leftL hs u) listed0).getD x false with
    | true =>
      rcases k1.1 hq with k | k
      · rw [hfalse x] at k; cases k
      · exact ((hrm x).1 k).2
    | false =>
      cases hq2 : listed.getD x false with
      | false => rfl
      | true =>
        have := k1.2 (.inr ((hrm x).2 ⟨hIonly x hq2, hq2⟩))
        rw [hq] at this; cases this
  have k1 := List.all_eq_true.1 htb u (by rw [hu]; exact filter_subs _ _)
  rw [← heq, closedB_of hI.closed] at k1
  simp only [Bool.not_true, Bool.false_or, List.any_eq_true, Bool.and_eq_true, decide_eq_true_eq] at k1
  obtain ⟨p, hp, ⟨hp1, hp2⟩, hord⟩ := k1
  obtain ⟨m', q1, q2, q3⟩ := hI.finishD hc (fun i hi hn => by
    by_cases hil : i ∈ ls
    · exfalso
      obtain ⟨_, o, ho, hno, hco⟩ := hlsm i hil
      obtain ⟨o', β, ho', hst, _, _, _⟩ := Planned.at hs α [] hsorted hpl i hi
      obtain rfl : o = o' := Option.some.inj (ho.symm.trans ho')
      have hn' : (nb i).isSome = true := hn
      rcases hst with ⟨_, _, h3⟩ | ⟨_, _, _, _, h3⟩ | ⟨_, h4, _⟩ | ⟨_, _, _, h3⟩ | ⟨_, h4, _⟩ | ⟨_, _, _, _, _, _, _, _, _, _, h3⟩ | ⟨_, _, _, _, _, h3⟩
      · rw [h3] at hn'; cases hn'
      · rw [h3] at hn'; cases hn'
      · unfold newOp at hno; rw [h4] at hno; cases hno
      · rw [h3] at hn'; cases hn'
      · have := (isCallG_f hco).1; rw [h4] at this; cases this
      · rw [h3] at hn'; cases hn'
      · rw [h3] at hn'; cases hn'
    · exact hall' i hi hil)
  have hdisj : ∀ i ∈ hs, ∀ j ∈ hs, i ≠ j → ∀ t, dstO l.toArray i = some t → dstO l.toArray j ≠ some t := fun i hi j hj hne t ht => hc.dst hi hj hne ht
  have hmix : endF l.toArray val (hs.filter fun i => listed.getD i false) α = mixF p.2.1 α (endF l.toArray val hs α) := by
    funext t
    rw [mixF_at]
    have hts : p.2.1.contains t = true ↔ ∃ i ∈ u, dstO l.toArray i = some t := by
      rw [List.contains_iff_mem]
      have : some t ∈ p.2.1.map some ↔ t ∈ p.2.1 := by simp
      rw [← this, ← hp2]
      simp only [List.mem_map]
    by_cases hct : p.2.1.contains t = true
    · rw [if_pos hct]
      obtain ⟨i, hi, hd⟩ := hts.1 hct
      obtain ⟨hil, hiu⟩ := (hum i).1 hi
      refine endF_none _ _ t fun j hj hjd => ?_
      rw [List.mem_filter] at hj
      have hne : i ≠ j := fun e => by rw [← e, hiu] at hj; cases hj.2
      exact hdisj i (hlsm i hil).1 j hj.1 hne t hd hjd
    · rw [if_neg hct]
      by_cases hw : ∃ j ∈ hs, dstO l.toArray j = some t
      · obtain ⟨j, hj, hd⟩ := hw
        have hjl : listed.getD j false = true := by
          cases hq : listed.getD j false with
          | true => rfl
          | false =>
            have hjls : j ∈ ls := Classical.byContradiction fun hn => by rw [hall' j hj hn] at hq; cases hq
            exact absurd (hts.2 ⟨j, (hum j).2 ⟨hjls, hq⟩, hd⟩) hct
        rw [endF_some (hs.filter fun i => listed.getD i false) α t j (hnd.sublist List.filter_sublist) (List.mem_filter.2 ⟨hj, hjl⟩) hd fun j' hj' hne => hdisj j hj j' (List.mem_filter.1 hj').1 (Ne.symm hne) t hd,
          endF_some hs α t j hnd hj hd fun j' hj' hne => hdisj j hj j' hj' (Ne.symm hne) t hd]
      · rw [endF_none _ _ t fun j hj hd => hw ⟨j, (List.mem_filter.1 hj).1, hd⟩, endF_none _ _ t fun j hj hd => hw ⟨j, hj, hd⟩]
  have q3' : FR n m' (mixF p.2.1 α (endF l.toArray val hs α)) a2 := by rw [← hmix]; exact q3
  have hfu : (c.hs.filter fun i => !listed.getD i false).length = u.length := by rw [← huf]
  rw [hfu]
  exact orders_runL (P := P) (Q := Q) (ops := l.toArray) rfl hok (fun _ _ h => h) (w0 := w) (m0 := m) (u.length + g) listed p.2.2 _ _ m' w2 a2 (fun i o hiu hio => by
      by_cases hih : i ∈ hs
      · have hil : i ∈ ls := Classical.byContradiction fun hn => by
          have := hall' i hih hn
          rw [getD_both hiu] at this; cases this
        obtain ⟨_, o', ho', _, hco⟩ := hlsm i hil
        obtain rfl : o = o' := Option.some.inj (hio.symm.trans ho')
        exact hco
      · exact (hwait i o hio hih).1) hord (hK p hp) q1 q2 q3' ((Below.drew (.refl base w)).trans (hI.below.mono hR'.base_le))
end
end Go.Proofs.YtmnkbdclnaekkaaDoor
