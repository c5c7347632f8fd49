/-
  The same: whatever order is drawn. Over any program.
-/
import Derived.Test.YtjfhdckcjkgjnaaDoorXj
namespace Go.Proofs.YtjfhdckcjkgjnaaDoor
open Go Go.RowKit
set_option linter.unusedVariables false
set_option linter.unusedSimpArgs false

theorem Shown.of_V {m : List Ent} {h : Nat} {N : List Blk} {L : AH} {x y : Value} (hm : m.length = h) (hv : V m x y) : Shown h N L x := by
  have lt : ∀ {i : Nat} {e : Ent}, m[i]? = some e → i < h := fun he => hm ▸ (List.getElem?_eq_some_iff.1 he).1
  cases hv with
  | tup _ _ => trivial
  | two h2 =>
    cases h2 with
    | agg _ _ => trivial
    | one h1 =>
      cases h1 with
      | plain hp =>
        unfold Shown
        split
        · cases hp
        · cases hp
        · trivial
      | ptr he => intro j b hj; have := lt he; omega
      | sl he _ _ => intro j b hj; have := lt he; omega
      | slv he _ => intro j b hj; have := lt he; omega
      | sl0 => trivial
      | clo _ _ _ _ => trivial
section
variable {c : PCtx} {listed : Array Bool} {a : Act} {w : World} {E : Nat → Option Ent}
theorem alloc_notCall {op : Op} (h : allocOp op = true) : isCallF op = false := by cases op <;> first | (cases h; done) | rfl
theorem alloc_notLook {op : Op} (h : allocOp op = true) : lookF op = false := by cases op <;> first | (cases h; done) | rfl
/-- One new row more. -/
theorem PInv.grow (hc : c.Ok) (h : PInv c listed a w E) {i : Nat} {o : Oper} (hi : i ∈ c.hs) (ho : c.ops[i]? = some o) (hun : listed.getD i true = false) (hall : ∀ e ∈ o.after, Region.binds .any e = true → listed.getD e.on false = true)
    (hpre : c.Ns i ++ (c.nb i).toList <+: endN c.nb c.hs []) {b : Blk} (hn : c.nb i = some b) {e : Ent} {v' : Value} {w' : World} (hfresh : w.heap.size ≤ e.b) (hblk : BlkOk w' e b) (h6 : Below w.heap.size w w')
    (htr : ∀ E' : Nat → Option Ent, E' (c.Ns i).length = some e → ∀ t, o.dst = some t → t < c.n → V c.m (c.val i) v' ∨ (newOp c.nd o = true ∧ VN c.H.length E' (c.val i) v')) :
    ∃ E', PInv c (listed.setIfInBounds i true) (a.put o.dst v') w' E' := by
  have hfree : ∀ e0, E (c.Ns i).length ≠ some e0 := by
    intro e0 he0
    obtain ⟨i', k1, k2, k3, k4⟩ := h.from' _ e0 he0
    have hne : i' ≠ i := fun e => by rw [e, getD_both hun] at k4; cases k4
    rcases Nat.lt_or_gt_of_ne hne with hlt | hlt
    · have := (Planned.lt c.hs c.α [] hc.sorted hc.plan i' k1 i hi hlt).length_le
      cases hq : c.nb i' with
      | none => rw [hq] at k2; cases k2
      | some b0 => rw [hq] at this; simp at this; omega
    · have := (Planned.lt c.hs c.α [] hc.sorted hc.plan i hi i' k1 hlt).length_le
      rw [hn] at this; simp at this; omega
  have hN : (endN c.nb c.hs [])[(c.Ns i).length]? = some b := by
    rw [hn] at hpre
    obtain ⟨t, ht⟩ := hpre
    rw [← ht]; simp
  have hEE : ∀ j e1, E j = some e1 → (if j = (c.Ns i).length then some e else E j) = some e1 := fun j e1 he1 => by
    have hj : j ≠ (c.Ns i).length := fun e2 => hfree e1 (by rw [← e2]; exact he1)
    rw [if_neg hj]; exact he1
  have hlow : ∀ j e1, E j = some e1 → e1.b < w.heap.size := fun j e1 he1 => by
    obtain ⟨_, b1, _, hb⟩ := h.ent j e1 he1
    obtain ⟨_, _, _, cs, fr, q, _⟩ := hb
    exact (Array.getElem?_eq_some_iff.1 q).1
  have hnext := h.next hc hi ho hun hall (v' := v') (w' := w') (E' := fun j => if j = (c.Ns i).length then some e else E j) hEE (h.below.trans (h6.mono h.below.size)) (fun j e1 he1 => by
      by_cases hj : j = (c.Ns i).length
      · simp only [hj, if_true] at he1
        cases he1
        exact ⟨Nat.le_trans h.below.size hfresh, b, by rw [hj]; exact hN, hblk⟩
      · simp only [hj, if_false] at he1
        obtain ⟨k1, b1, k2, k3⟩ := h.ent j e1 he1
        exact ⟨k1, b1, k2, k3.below h6⟩)
    (fun j j' e1 e2 hne h1 h2 => by
      by_cases hj : j = (c.Ns i).length
      · by_cases hj' : j' = (c.Ns i).length
        · omega
        · simp only [hj, if_true] at h1
          simp only [hj', if_false] at h2
          cases h1
          have := hlow j' e2 h2
          omega
      · simp only [hj, if_false] at h1
        by_cases hj' : j' = (c.Ns i).length
        · simp only [hj', if_true] at h2
          cases h2
          have := hlow j e1 h1
          omega
        · simp only [hj', if_false] at h2
          exact h.dist j j' e1 e2 hne h1 h2)
    (fun _ => by simp) (fun j e1 he1 => by
      by_cases hj : j = (c.Ns i).length
      · exact .inr ⟨by rw [hn]; rfl, hj.symm⟩
      · simp only [hj, if_false] at he1
        exact .inl he1)
    (htr _ (by simp))
  exact ⟨_, hnext⟩
theorem plan_args (hc : c.Ok) (h : PInv c listed a w E) {i : Nat} {o : Oper} {β : Fm} {xs : Array Operand} (hxs : ∀ x ∈ xs, x ∈ o.op.operands) (hpre : c.Ns i ++ (c.nb i).toList <+: endN c.nb c.hs [])
    (hlk : ∀ t ∈ o.looksAt c.ops, t < c.n → V c.m (β t) (a.tmps.getD t undef) ∨ ∃ j ∈ c.hs, ∃ oj, c.ops[j]? = some oj ∧ newOp c.nd oj = true ∧ oj.dst = some t ∧ listed.getD j false = true ∧ VN c.H.length E (β t) (a.tmps.getD t undef))
    (hokx : ∀ x ∈ o.op.operands, okOpd c.n c.γ x = true) (hmem : ∀ t, Operand.tmp t ∈ o.op.operands → t ∈ o.looksAt c.ops) :
    ∃ (L : AH) (mL : List Ent), Rel (c.H ++ L).length w.heap.size c.γ (c.m ++ mL) (c.H ++ L) w ∧ (∀ x ∈ xs, V (c.m ++ mL) (β.eval c.γ x) (a.eval x)) ∧ (∀ x ∈ (xs.map (β.eval c.γ)).toList, Shown c.H.length (c.Ns i) L x) ∧ (∀ j e, E j = some e → (c.m ++ mL)[c.H.length + j]? = some e) := by
  have hlow : ∀ j e1, E j = some e1 → e1.b < w.heap.size := fun j e1 he1 => by
    obtain ⟨_, b1, _, hb⟩ := h.ent j e1 he1
    obtain ⟨_, _, _, cs, fr, q, _⟩ := hb
    exact (Array.getElem?_eq_some_iff.1 q).1
  obtain ⟨N, hN⟩ : ∃ N, N = endN c.nb c.hs [] := ⟨_, rfl⟩
  obtain ⟨L, mL, hl, hin, hcL, hLE⟩ : ∃ (L : AH) (mL : List Ent), mL.length = L.length ∧ (∀ (j : Nat) (e : Ent), mL[j]? = some e → e.b < w.heap.size) ∧ (∀ (j : Nat) (b : Blk) (e : Ent), L[j]? = some (some b) → mL[j]? = some e → BlkOk w e b) ∧
      (∀ (j : Nat) (e : Ent) (b : Blk), E j = some e → N[j]? = some b → mL[j]? = some e ∧ L[j]? = some (some b)) := by
    by_cases hex : ∃ j e, E j = some e
    · obtain ⟨j0, e0, h0⟩ := hex
      refine ⟨(List.range N.length).map fun j => (E j).bind fun _ => N[j]?, (List.range N.length).map fun j => (E j).getD e0, by simp, fun j e he => ?_, fun j b e hL he => ?_, fun j e b he hb => ?_⟩
      · rw [List.getElem?_map] at he
        cases hq : (List.range N.length)[j]? with
        | none => rw [hq] at he; cases he
        | some q =>
          rw [hq] at he
          simp only [Option.map_some, Option.some.injEq] at he
          cases hE : E q with
          | none => rw [hE] at he; rw [← he]; exact hlow j0 e0 h0
          | some e1 => rw [hE] at he; rw [← he]; exact hlow q e1 hE
      · rw [List.getElem?_map] at he hL
        cases hq : (List.range N.length)[j]? with
        | none => rw [hq] at he; cases he
        | some q =>
          rw [hq] at he hL
          simp only [Option.map_some, Option.some.injEq] at he hL
          cases hE : E q with
          | none => rw [hE] at hL; cases hL
          | some e1 =>
            rw [hE] at he hL
            simp only [Option.bind_some] at hL
            obtain ⟨_, b1, k2, k3⟩ := h.ent q e1 hE
            rw [← hN, hL] at k2
            cases k2
            rw [← he]; exact k3
      · have hj : j < N.length := (List.getElem?_eq_some_iff.1 hb).1
        have hrng : (List.range N.length)[j]? = some j := by simp [hj]
        exact ⟨by rw [List.getElem?_map, hrng]; simp [he], by rw [List.getElem?_map, hrng]; simp only [Option.map_some, he, Option.bind_some, hb]⟩
    · exact ⟨[], [], rfl, fun j e he => by simp at he, fun j b e hb => by simp at hb, fun j e b he => absurd ⟨j, e, he⟩ hex⟩
  have hR := (hc.rel.below h.below).news hl hin hcL
  have hmE : ∀ j e, E j = some e → (c.m ++ mL)[c.H.length + j]? = some e := fun j e he => by
    obtain ⟨_, b, hb, _⟩ := h.ent j e he
    rw [← hc.rel.len, List.getElem?_append_right (Nat.le_add_right _ _), Nat.add_sub_cancel_left]
    exact (hLE j e b he (by rw [hN]; exact hb)).1
  have hargs : ∀ x ∈ xs, V (c.m ++ mL) (β.eval c.γ x) (a.eval x) := fun x hx => eval_ev hR (hokx x (hxs x hx)) fun t ht htn => by
    subst ht
    rcases hlk t (hmem t (hxs _ hx)) htn with h1 | ⟨j, hj, oj, hoj, ha, hdj, _, h4⟩
    · exact h1.mono (List.prefix_append _ _)
    · exact h4.v hmE fun j e he => (h.ent j e he).2.choose_spec.2.1
  have hshown : ∀ x ∈ (xs.map (β.eval c.γ)).toList, Shown c.H.length (c.Ns i) L x := by
    intro x hx
    simp only [Array.toList_map, List.mem_map] at hx
    obtain ⟨q, hq, rfl⟩ := hx
    have hq : q ∈ xs := by simpa using hq
    have hokq := hokx q (hxs q hq)
    cases q with
    | tmp t =>
      have htn : t < c.n := by simpa [okOpd] using hokq
      rcases hlk t (hmem t (hxs _ hq)) htn with h1 | ⟨j, hj, oj, hoj, ha, hdj, _, h4⟩
      · exact Shown.of_V hc.rel.len h1
      · obtain ⟨j1, e1, he1, hcase⟩ := h4
        have hb : ∀ j b, c.H.length + j1 = c.H.length + j → (c.Ns i)[j]? = some b → hget L j = some b := by
          intro j b hjj hb
          obtain rfl : j1 = j := by omega
          have hNb : N[j1]? = some b := by
            rw [hN]
            obtain ⟨t2, ht2⟩ := hpre
            rw [← ht2, List.append_assoc, List.getElem?_append_left (List.getElem?_eq_some_iff.1 hb).1]
            exact hb
          have := (hLE j1 e1 b he1 hNb).2
          unfold hget
          rw [this]; rfl
        have heval : β.eval c.γ (.tmp t) = β t := rfl
        rw [heval]
        rcases hcase with ⟨hv1, _⟩ | ⟨l1, c1, hv1, _⟩
        · rw [hv1]; exact hb
        · rw [hv1]; exact hb
    | const v => exact Shown.of_V hc.rel.len (plainV_mk (m := c.m) hokq)
    | global g => exact Shown.of_V hc.rel.len (eval_ev (x := .global g) (a := a) (α := β) hc.rel hokq (fun t ht => by cases ht))
    | func f => trivial
  exact ⟨L, mL, hR, hargs, hshown, hmE⟩
theorem plan_step (hc : c.Ok) (h : PInv c listed a w E) {i : Nat} (hi : i ∈ c.hs) (hr : i ∈ Region.ready .any c.ops listed) {K : Act → World → Prop} {Q' : Exit → Act → World → Prop}
    (hK : ∀ a' w' E', PInv c (listed.setIfInBounds i true) a' w' E' → K a' w') : wpOp c.P c.ops Q' i K a w := by
  obtain ⟨hun, o, ho, hall⟩ := mem_ready.1 hr
  obtain ⟨o', β, ho', hst, hpre, hb1, hb2⟩ := Planned.at c.hs c.α [] hc.sorted hc.plan i hi
  obtain rfl : o = o' := Option.some.inj (ho.symm.trans ho')
  have hlk := h.looks hc hi ho hun hall hb1 hb2
  have hokx : ∀ x ∈ o.op.operands, okOpd c.n c.γ x = true := fun x hx => by
    obtain ⟨q, hq, rfl⟩ := Array.mem_iff_getElem.1 hx
    exact (Array.all_eq_true.1 (hc.ok i o ho)) q hq
  have hold : oldB c.nd c.ops c.hs o = true := by
    have k1 := hc.head i hi
    unfold opOkB at k1
    rw [ho] at k1
    simp only [Bool.and_eq_true] at k1
    exact k1.1.2
  have hmem : ∀ t, Operand.tmp t ∈ o.op.operands → t ∈ o.looksAt c.ops := fun t ht => List.mem_append_left _ (List.mem_filterMap.2 ⟨.tmp t, by simpa using ht, rfl⟩)
  have hg : ∀ d ∈ guardT c.ops o, d < c.n → V c.m (β d) (a.tmps.getD d undef) := by
    intro d hd hn
    rcases hlk d (guard_looks hd) hn with h1 | ⟨j, hj, oj, hoj, ha, hdj, _, _⟩
    · exact h1
    · refine absurd ?_ (oldB_spec hold hj hoj ha hdj)
      split
      · exact hd
      · exact guard_looks hd
  have hev : isCallF o.op = false → lookF o.op = false → ∀ x ∈ o.op.operands, V c.m (β.eval c.γ x) (a.eval x) := fun hcf hlf x hx => eval_ev hc.rel (hokx x hx) fun t ht htn => by
    subst ht
    rcases hlk t (hmem t hx) htn with h1 | ⟨j, hj, oj, hoj, ha, hdj, _, _⟩
    · exact h1
    · refine absurd ?_ (oldB_spec hold hj hoj ha hdj)
      rw [hcf, hlf]
      exact hmem t hx
  unfold wpOp
  simp only [ho]
  rcases hst with ⟨hw, hv, hn⟩ | ⟨hw, hcf, hlf, hx, hn⟩ | ⟨hw, ha, v0, H', b, hx, hgt, hpl, hv, hn⟩ | ⟨hw, hcf, ⟨f, args, hca, hcal, hpl, hac⟩, hn⟩ | ⟨hw, hcf, hnd, f, args, b, len, hca, hcal, hplb, hac, hv, hn⟩ | ⟨hw, hcf, hnd, f, args, hca, hcal, hvm, hsl, hac, hn⟩ | ⟨hw, hcf, hlf, hpl, hx, hn⟩
  · rw [wantedA_ev h.size hg hw]
    simp only [Bool.false_eq_true, if_false]
    exact hK _ _ E (h.next hc hi ho hun hall (fun _ _ h => h) h.below h.ent h.dist (by rw [hn]; simp) (fun j e he => .inl he) (fun t _ _ => .inl (by rw [hv]; exact plainV_mk plainV_undef)))
  · rw [wantedA_ev h.size hg hw]
    simp only [if_true]
    refine .inl ?_
    have hevx : ∀ x ∈ o.op.operands, V c.m (β.eval c.γ x) (a.eval x) := by
      rcases hlf with hlf | hlf
      · exact hev hcf hlf
      · intro x hxm
        refine eval_ev hc.rel (hokx x hxm) fun t ht htn => ?_
        subst ht
        rcases hlk t (hmem t hxm) htn with h1 | ⟨j, hj, oj, hoj, ha, hdj, _, j1, e1, he1, hcase⟩
        · exact h1
        · exfalso
          obtain ⟨dst, op, type, pos, after, guard⟩ := o
          simp only at hlf hx hxm
          unfold isLoadF at hlf
          split at hlf
          · rename_i tt y
            simp only [Op.operands] at hxm
            have hy : y = .tmp t := by
              have h9 := hxm
              simp at h9
              exact h9.symm
            subst hy
            have hx' : xload c.P tt (β t) c.H = some (c.val i) := hx
            rcases hcase with ⟨hv1, _⟩ | ⟨l1, c1, hv1, _⟩
            · rw [hv1] at hx'
              have := xload_new hx'
              omega
            · rw [hv1] at hx'
              simp [xload] at hx'
          · cases hlf
    obtain ⟨v', h1, h2⟩ := xread_ev hc.rel hevx hx
    unfold Oper.wp
    rw [h2 w h.below]
    exact hK _ _ E (h.next hc hi ho hun hall (fun _ _ h => h) h.below h.ent h.dist (by rw [hn]; simp) (fun j e he => .inl he) (fun t _ _ => .inl h1))
  · rw [wantedA_ev h.size hg hw]
    simp only [if_true]
    refine .inl ?_
    have hR := (hc.rel.below h.below).freeze
    obtain ⟨⟨b', hb'⟩, hform, hnro⟩ := xeff_alloc ha hx
    obtain ⟨m', x, w', v', h1, h2, h3, h4, h5, h6⟩ := xeff_ev hR (hev (alloc_notCall ha) (alloc_notLook ha)) (hnro c.H.length)
    have hbb : b' = b := by
      rw [hb', hget_app0, hget_cons0] at hgt
      exact Option.some.inj hgt
    rw [hb', hbb] at h5
    have hml : m'.length = c.H.length + 1 := by have := h5.len; simpa using this
    obtain ⟨e, he⟩ : ∃ e, m'[c.H.length]? = some e := ⟨_, List.getElem?_eq_getElem (by omega)⟩
    obtain ⟨hfresh, heo⟩ := h5.own c.H.length e (Nat.le_refl _) he
    obtain ⟨cs, fr, g1, g2, g3, g4, g5⟩ := h5.cells c.H.length b e (by simp) he
    have hblk : BlkOk w' e b := ⟨heo, g3, hpl, cs, fr, g1, g2 (Nat.le_refl _), (g4 (Nat.le_refl _)).1, (g4 (Nat.le_refl _)).2, fun j x hx => by
      obtain ⟨y, p, q⟩ := g5 j x hx
      rw [heo, Nat.zero_add] at p
      rw [p, q.eq (List.all_eq_true.1 hpl x (List.mem_of_getElem? hx))]⟩
    have hVN : ∀ E' : Nat → Option Ent, E' (c.Ns i).length = some e → VN c.H.length E' (c.val i) v' := by
      intro E' hE'
      refine ⟨(c.Ns i).length, e, hE', ?_⟩
      rw [hv]
      rcases hform with rfl | ⟨len, rfl⟩
      · obtain ⟨e2, he2, rfl⟩ := h4.ptr_
        rw [he] at he2
        cases he2
        exact .inl ⟨rfl, by rw [heo]⟩
      · obtain ⟨e2, c', _, he2, hl, hs, rfl⟩ := h4.sl_
        rw [he] at he2
        cases he2
        exact .inr ⟨len, c', rfl, by rw [heo], hl, fun s hs' => hs rfl s hs'⟩
    obtain ⟨E', hnext⟩ := h.grow hc hi ho hun hall hpre hn hfresh hblk h6 (fun E' hE' t _ _ => .inr ⟨by unfold newOp; rw [ha]; rfl, hVN E' hE'⟩)
    unfold Oper.wp
    rw [h1]
    rcases h2 with rfl | ⟨rfl, rfl⟩
    · exact hK _ _ _ hnext
    · exact hK _ _ _ hnext
  · rw [wantedA_ev h.size hg hw]
    simp only [if_true]
    refine .inl ?_
    obtain ⟨xs, ts, hop, rfl⟩ := callee_ops hca
    obtain ⟨L, mL, hR, hargs, hshown, _⟩ := plan_args hc h (xs := xs) (fun x hx => by rw [hop]; simp [Op.operands, Call.operands, hx]) hpre hlk hokx hmem
    have h2 := hac L hshown
    have hfin : ∀ w'', Below w.heap.size w w'' → K (a.put o.dst (c.val i)) w'' := fun w'' hb =>
      hK _ _ E (h.next hc hi ho hun hall (fun _ _ h => h) (h.below.trans (hb.mono h.below.size)) (fun j e he => let ⟨k1, b, k2, k3⟩ := h.ent j e he; ⟨k1, b, k2, k3.below hb⟩) h.dist (by rw [hn]; simp) (fun j e he => .inl he) (fun t _ _ => .inl (plainV_mk hpl)))
    unfold Oper.wp
    rcases h2 (c.m ++ mL) w.heap.size w (xs.map a.eval) hR (by simp) (fun q x hx => by
      rw [Array.getElem?_map] at hx ⊢
      cases hq : xs[q]? with
      | none => rw [hq] at hx; cases hx
      | some y =>
        rw [hq] at hx
        cases hx
        exact ⟨_, rfl, hargs y (Array.mem_of_getElem? hq)⟩) with ⟨hbd, hac'⟩ | ⟨v1, hrun, m', v2, v', H', he, _, hv, _, hb', rfl⟩
    · rw [call_run hop hcal hbd, Oper.upon_enter]
      refine hac'.mono ?_
      rintro e w'' ⟨m', v2, v', H', rfl, _, hv, _, hb', rfl⟩
      show K (a.put o.dst v') w''
      rw [hv.eq hpl]
      exact hfin _ hb'
    · cases he
      rw [call_runV hop hrun, hv.eq hpl, Oper.upon_value]
      exact hfin _ hb'
  · rw [wantedA_ev h.size hg hw]
    simp only [if_true]
    refine .inl ?_
    obtain ⟨xs, ts, hop, rfl⟩ := callee_ops hca
    obtain ⟨L, mL, hR, hargs, hshown, _⟩ := plan_args hc h (xs := xs) (fun x hx => by rw [hop]; simp [Op.operands, Call.operands, hx]) hpre hlk hokx hmem
    have h2 := hac L hshown
    have hfin : ∀ w'' m' v' H', Rel (c.H ++ L).length w.heap.size c.γ m' H' w'' → Below w.heap.size w w'' → (∃ v2, V m' v2 v' ∧ Fresh (c.H ++ L).length b len v2 H') → K (a.put o.dst v') w'' := by
      rintro w'' m' v' H' hR' hb ⟨v2, hv2, j0, hj0, rfl, hgt⟩
      have hj0' : j0 < m'.length := by rw [hR'.len]; exact (List.getElem?_eq_some_iff.1 (hget_some hgt)).1
      obtain ⟨e, he⟩ : ∃ e, m'[j0]? = some e := ⟨_, List.getElem?_eq_getElem hj0'⟩
      obtain ⟨hfresh, heo⟩ := hR'.own j0 e hj0 he
      obtain ⟨cs, fr, g1, g2, g3, g4, g5⟩ := hR'.cells j0 b e (hget_some hgt) he
      have hblk : BlkOk w'' e b := ⟨heo, g3, hplb, cs, fr, g1, g2 hj0, (g4 hj0).1, (g4 hj0).2, fun j x hx => by
        obtain ⟨y, p, q⟩ := g5 j x hx
        rw [heo, Nat.zero_add] at p
        rw [p, q.eq (List.all_eq_true.1 hplb x (List.mem_of_getElem? hx))]⟩
      obtain ⟨e2, c', _, he2, hl, hs, rfl⟩ := hv2.sl_
      rw [he] at he2
      cases he2
      have hVN : ∀ E' : Nat → Option Ent, E' (c.Ns i).length = some e → VN c.H.length E' (c.val i) (.slice (some ⟨e.b, e.o + 0, none⟩) len c') := fun E' hE' =>
        ⟨(c.Ns i).length, e, hE', .inr ⟨len, c', hv, by rw [heo], hl, fun s hs' => hs rfl s hs'⟩⟩
      obtain ⟨E', hnext⟩ := h.grow hc hi ho hun hall hpre hn hfresh hblk hb (fun E' hE' t _ _ => .inr ⟨by unfold newOp; rw [hnd, hcf]; simp, hVN E' hE'⟩)
      exact hK _ _ _ hnext
    unfold Oper.wp
    rcases h2 (c.m ++ mL) w.heap.size w (xs.map a.eval) hR (by simp) (fun q x hx => by
      rw [Array.getElem?_map] at hx ⊢
      cases hq : xs[q]? with
      | none => rw [hq] at hx; cases hx
      | some y =>
        rw [hq] at hx
        cases hx
        exact ⟨_, rfl, hargs y (Array.mem_of_getElem? hq)⟩) with ⟨hbd, hac'⟩ | ⟨v1, hrun, m', v2, v', H', he, _, hv2, hR2, hb', hq⟩
    · rw [call_run hop hcal hbd, Oper.upon_enter]
      refine hac'.mono ?_
      rintro e w'' ⟨m', v2, v', H', rfl, _, hv2, hR2, hb', hq⟩
      exact hfin w'' m' v' H' hR2 hb' ⟨v2, hv2, hq⟩
    · cases he
      rw [call_runV hop hrun, Oper.upon_value]
      exact hfin w m' v1 H' hR2 (.refl _ _) ⟨v2, hv2, hq⟩
  · rw [wantedA_ev h.size hg hw]
    simp only [if_true]
    refine .inl ?_
    obtain ⟨xs, ts, hop, rfl⟩ := callee_ops hca
    obtain ⟨L, mL, hR, hargs, hshown, hmE⟩ := plan_args hc h (xs := xs) (fun x hx => by rw [hop]; simp [Op.operands, Call.operands, hx]) hpre hlk hokx hmem
    have hxs : ∀ x ∈ xs, x ∈ o.op.operands := fun x hx => by
      rw [hop]; simp [Op.operands, Call.operands, hx]
    have h2 := hac L hshown
    have hEq : ∀ j e1 e, E j = some e1 → (c.m ++ mL)[c.H.length + j]? = some e → e1 = e := fun j e1 e h1 h2 => by rw [hmE j e1 h1] at h2; exact Option.some.inj h2
    have hEm : ∀ j e, E j = some e → e.o = 0 := fun j e he => (h.ent j e he).2.choose_spec.2.1
    have hfin : ∀ w'' m' v', c.m ++ mL <+: m' → Below w.heap.size w w'' → V m' (c.val i) v' → K (a.put o.dst v') w'' := by
      intro w'' m' v' hm' hb hv'
      obtain ⟨i0, l, hval⟩ : ∃ i0 l, c.val i = .slice (some ⟨i0, 0, none⟩) l l := by
        unfold isSl at hsl
        split at hsl
        · rename_i i0 l c0 he
          have : l = c0 := by simpa using hsl
          subst this
          exact ⟨i0, l, he⟩
        · cases hsl
      have htr : V c.m (c.val i) v' ∨ (newOp c.nd o = true ∧ VN c.H.length E (c.val i) v') := by
        rw [hval] at hv' hvm ⊢
        obtain ⟨e, c', _, he, hl, hs, rfl⟩ := hv'.sl_
        rcases Nat.lt_or_ge i0 c.m.length with hi0 | hi0
        · left
          have hme : c.m[i0]? = some e := by
            have h3 := pre_get ((List.prefix_append c.m mL).trans hm') (List.getElem?_eq_getElem hi0)
            rw [he] at h3
            cases h3
            exact List.getElem?_eq_getElem hi0
          exact .one (.sl hme hl hs)
        · right
          refine ⟨by unfold newOp; rw [hnd, hcf]; simp, ?_⟩
          simp only [Array.toList_map, List.mem_map] at hvm
          obtain ⟨q, hq, hqe⟩ := hvm
          have hq : q ∈ xs := by simpa using hq
          have hokq := hokx q (hxs q hq)
          cases q with
          | tmp t =>
            have htn : t < c.n := by simpa [okOpd] using hokq
            have heval : β.eval c.γ (.tmp t) = β t := rfl
            rw [heval] at hqe
            rcases hlk t (hmem t (hxs _ hq)) htn with h1 | ⟨j, hj, oj, hoj, ha, hdj, _, h4⟩
            · rw [hqe] at h1
              obtain ⟨e2, _, _, he2, _⟩ := h1.sl_
              have := (List.getElem?_eq_some_iff.1 he2).1
              omega
            · have hva := hargs _ hq
              obtain ⟨j1, e1, he1, ⟨hv1, _⟩ | ⟨l1, c1, hv1, _⟩⟩ := h4
              · rw [hqe] at hv1; cases hv1
              · rw [hqe] at hv1
                cases hv1
                have hv2 : V (c.m ++ mL) (β t) (a.tmps.getD t undef) := hva
                rw [hqe] at hv2
                obtain ⟨e2, c2, _, he2, _, _, hy2⟩ := hv2.sl_
                have h5 := pre_get hm' he2
                rw [he] at h5
                cases h5
                have hee : e1 = e := hEq j1 e1 e he1 he2
                subst hee
                exact ⟨j1, e1, he1, .inr ⟨l, c', rfl, by rw [hEm j1 e1 he1], hl, fun s hs' => hs rfl s hs'⟩⟩
          | const v =>
            have hpv : plainV v = true := hokq
            have : v = .slice (some ⟨i0, 0, none⟩) l l := hqe
            rw [this] at hpv; cases hpv
          | global g =>
            have h1 := eval_ev (x := .global g) (a := a) (α := β) hc.rel hokq (fun t ht => by cases ht)
            rw [hqe] at h1
            obtain ⟨e2, _, _, he2, _⟩ := h1.sl_
            have := (List.getElem?_eq_some_iff.1 he2).1
            omega
          | func f => cases hqe
      exact hK _ _ E (h.next hc hi ho hun hall (fun _ _ h => h) (h.below.trans (hb.mono h.below.size)) (fun j e he => let ⟨k1, b, k2, k3⟩ := h.ent j e he; ⟨k1, b, k2, k3.below hb⟩) h.dist (by rw [hn]; simp) (fun j e he => .inl he) (fun t _ _ => htr))
    unfold Oper.wp
    rcases h2 (c.m ++ mL) w.heap.size w (xs.map a.eval) hR (by simp) (fun q x hx => by
      rw [Array.getElem?_map] at hx ⊢
      cases hq : xs[q]? with
      | none => rw [hq] at hx; cases hx
      | some y =>
        rw [hq] at hx
        cases hx
        exact ⟨_, rfl, hargs y (Array.mem_of_getElem? hq)⟩) with ⟨hbd, hac'⟩ | ⟨v1, hrun, m', v2, v', H', he, hm', hv2, hR2, hb', rfl⟩
    · rw [call_run hop hcal hbd, Oper.upon_enter]
      refine hac'.mono ?_
      rintro e w'' ⟨m', v2, v', H', rfl, hm', hv2, hR2, hb', rfl⟩
      exact hfin w'' m' v' hm' hb' hv2
    · cases he
      rw [call_runV hop hrun, Oper.upon_value]
      exact hfin w m' v1 hm' (.refl _ _) hv2
  · rw [wantedA_ev h.size hg hw]
    simp only [if_true]
    refine .inl ?_
    obtain ⟨L, mL, hR, hargs, hshown, _⟩ := plan_args hc h (xs := o.op.operands) (fun x hx => hx) hpre hlk hokx hmem
    have hx2 := hx L (fun x hxm => hshown _ (by simp only [Array.toList_map, List.mem_map]; exact ⟨x, by simpa using hxm, rfl⟩))
    obtain ⟨v', h1, h2⟩ := xread_ev hR hargs hx2
    unfold Oper.wp
    rw [h2 w (.refl _ _)]
    rw [h1.eq hpl]
    exact hK _ _ E (h.next hc hi ho hun hall (fun _ _ h => h) h.below h.ent h.dist (by rw [hn]; simp) (fun j e he => .inl he) (fun t _ _ => .inl (plainV_mk hpl)))
theorem plan_run (hc : c.Ok) {Q' : Exit → Act → World → Prop} {g : Nat} (hready : (Region.ready .any c.ops (setAll c.hs c.listed0)).all (fun j => c.hs.all fun i => waitsT c.ops c.ops.size j i) = true)
    (hend : ∀ a w m', c.m <+: m' → Rel c.nro c.base c.γ m' (c.H ++ (endN c.nb c.hs []).map some) w → FR c.n m' (endF c.ops c.val c.hs c.α) a → Below c.w0.heap.size c.w0 w → wpAny c.P .any c.ops Q' g (setAll c.hs c.listed0) a w) :
    ∀ (f : Nat) (listed : Array Bool) (a : Act) (w : World) (E : Nat → Option Ent), PInv c listed a w E → (c.hs.filter fun i => !listed.getD i false).length = f → wpAny c.P .any c.ops Q' (f + g) listed a w := by
  have hnd : c.hs.Nodup := hc.sorted.imp (fun h => Nat.ne_of_lt h)
  intro f
  induction f with
  | zero =>
    intro listed a w E h hf
    have hdone : ∀ i ∈ c.hs, listed.getD i false = true := by
      intro i hi
      have h0 := List.eq_nil_of_length_eq_zero hf
      cases hq : listed.getD i false with
      | true => rfl
      | false =>
        have : i ∈ c.hs.filter fun i => !listed.getD i false := List.mem_filter.2 ⟨hi, by rw [hq]; rfl⟩
        rw [h0] at this; cases this
    have hsz : (setAll c.hs c.listed0).size = listed.size := by rw [setAll_size, hc.size0, h.lsz]
    have heq : listed = setAll c.hs c.listed0 := by
      apply Array.ext hsz.symm
      intro x h1 h2
      have k1 := setAll_get c.hs c.listed0 x (by rw [hc.size0, ← h.lsz]; exact h1)
      have e1 : listed.getD x false = listed[x] := by simp [h1]
      have e2 : (setAll c.hs c.listed0).getD x false = (setAll c.hs c.listed0)[x] := by simp [h2]
      rw [← e1, ← e2]
      cases hq : (setAll c.hs c.listed0).getD x false with
      | true =>
        rcases k1.1 hq with k | k
        · exact h.sub x k
        · exact hdone x k
      | false =>
        cases hq2 : listed.getD x false with
        | false => rfl
        | true =>
          have := k1.2 (h.only x hq2)
          rw [hq] at this; cases this
    obtain ⟨m', g1, g2, g3⟩ := h.finish hc hdone
    rw [Nat.zero_add, heq]
    exact hend a w m' g1 g2 g3 h.below
  | succ f ih =>
    intro listed a w E h hf
    have hex : ∃ i, i ∈ c.hs ∧ listed.getD i false = false := by
      rcases hq : c.hs.filter fun i => !listed.getD i false with _ | ⟨i, l⟩
      · rw [hq] at hf; cases hf
      · have : i ∈ c.hs.filter fun i => !listed.getD i false := by rw [hq]; simp
        rw [List.mem_filter] at this
        exact ⟨i, this.1, by simpa using this.2⟩
    obtain ⟨i0, ⟨hi0, hl0⟩, hmin⟩ := least hex
    have hlt0 : i0 < listed.size := by
      have k1 := hc.head i0 hi0
      unfold opOkB at k1
      split at k1
      · rename_i o ho
        rw [h.lsz]; exact (Array.getElem?_eq_some_iff.1 ho).1
      · cases k1
    have hr0 : i0 ∈ Region.ready .any c.ops listed := by
      rw [mem_ready]
      have k1 := hc.head i0 hi0
      unfold opOkB at k1
      split at k1
      case h_2 => cases k1
      rename_i o ho
      simp only [Bool.and_eq_true] at k1
      refine ⟨getD_in hlt0 hl0, o, ho, fun e he hb => ?_⟩
      have k2 := Array.all_eq_true_iff_forall_mem.1 k1.2 e he
      rw [hb] at k2
      simp only [Bool.not_true, Bool.false_or, Bool.or_eq_true, Bool.and_eq_true, decide_eq_true_eq, List.contains_iff_mem] at k2
      rcases k2 with k2 | ⟨k2, k3⟩
      · exact h.sub _ k2
      · cases hq : listed.getD e.on false with
        | true => rfl
        | false => exact absurd ⟨k2, hq⟩ (hmin _ k3)
    rw [show f + 1 + g = (f + g) + 1 by omega]
    refine ⟨fun h0 => absurd hr0 (by rw [h0]; simp), fun j hj => ?_⟩
    obtain ⟨hjun, oj, hoj, hjall⟩ := mem_ready.1 hj
    by_cases hjh : j ∈ c.hs
    · refine plan_step hc h hjh hj fun a' w' E' h' => ih _ a' w' E' h' ?_
      have hfe : (c.hs.filter fun i => !(listed.setIfInBounds j true).getD i false) = (c.hs.filter fun i => !listed.getD i false).erase j := by
        rw [(hnd.sublist List.filter_sublist).erase_eq_filter, List.filter_filter]
        apply List.filter_congr
        intro x hx
        by_cases e : j = x
        · subst e
          have : j < listed.size := by rw [h.lsz]; exact (Array.getElem?_eq_some_iff.1 hoj).1
          rw [getD_set_self this]; simp
        · rw [getD_set_ne false e]
          simp [Ne.symm e]
      rw [hfe, List.length_erase_of_mem (List.mem_filter.2 ⟨hjh, by rw [getD_both hjun]; rfl⟩), hf]
      rfl
    · exfalso
      have hjlt : j < c.listed0.size := by rw [hc.size0]; exact (Array.getElem?_eq_some_iff.1 hoj).1
      have hjr : j ∈ Region.ready .any c.ops (setAll c.hs c.listed0) := by
        rw [mem_ready]
        refine ⟨getD_in (by rw [setAll_size]; exact hjlt) ?_, oj, hoj, fun e he hb => ?_⟩
        · cases hq : (setAll c.hs c.listed0).getD j false with
          | false => rfl
          | true =>
            rcases (setAll_get c.hs c.listed0 j hjlt).1 hq with k | k
            · have := h.sub j k
              rw [getD_both hjun] at this; cases this
            · exact absurd k hjh
        · have k := hjall e he hb
          have hlt : e.on < c.listed0.size := by rw [hc.size0, ← h.lsz]; exact getD_lt k
          exact (setAll_get c.hs c.listed0 e.on hlt).2 (h.only _ k)
      have k1 := List.all_eq_true.1 hready j hjr
      have k2 := List.all_eq_true.1 k1 i0 hi0
      obtain ⟨o2, ho2, e, he, hb, hl⟩ := waitsT_spec h.closed (getD_in hlt0 hl0) _ _ k2
      obtain rfl : oj = o2 := Option.some.inj (hoj.symm.trans ho2)
      rw [hjall e he hb] at hl
      cases hl
end
def pureB (ops : Array Oper) : List Nat → Array Bool → Bool
  | [], _ => true
  | i :: is, listed => (Region.ready .any ops listed).contains i && Region.free .any ops listed i && (match ops[i]? with | some o => pureOp o.op | none => false) && pureB ops is (listed.setIfInBounds i true)
def planB (nd : List Tmp) (ops : Array Oper) (ps hs : List Nat) (k g : Nat) : Bool :=
  Region.noSelect ops && decide (ps.length + (hs.length + g) = ops.size) && decide (k + g = ops.size) && pureB ops ps (Array.replicate ops.size false) && headB nd ops hs k g (setAll ps (Array.replicate ops.size false))
section
variable {P : Program} {nro n base : Nat} {γ : Nat → Option Nat} {m : List Ent} {H : AH} {α : Fm} {a : Act} {w : World} {Q : Exit → Fm → AH → Prop} {ops : Array Oper}
theorem SL.sound_pureB {l : List Oper} (hl : l.toArray = ops) (hok : okL n γ l = true) {Qk : Fm → Prop} {Q' : Exit → Act → World → Prop} (hQ : ∀ c a w, ¬ Q' (.panic c) a w) (hsel : Region.noSelect ops = true)
    (hR : Rel nro base γ m H w) {F : Nat} : ∀ (ps : List Nat) (listed : Array Bool) (α : Fm) (a : Act), (∀ a α, FR n m α a → Qk α → wpAny P .any ops Q' F (setAll ps listed) a w) → pureB ops ps listed = true → FR n m α a → SL P n γ ops Qk H (sel l ps) α → wpAny P .any ops Q' (ps.length + F) listed a w
  | [], listed, α, a, hK, hB, hF, h => by
    simp only [List.length_nil, Nat.zero_add]
    exact hK a α hF h
  | i :: ps, listed, α, a, hK, hB, hF, h => by
    simp only [pureB, Bool.and_eq_true] at hB
    obtain ⟨⟨⟨hr, hf⟩, hp⟩, hB'⟩ := hB
    have hr' : i ∈ Region.ready .any ops listed := by simpa using hr
    obtain ⟨_, oi, hoi, _⟩ := mem_ready.1 hr'
    have hli : l[i]? = some oi := by rw [← hoi, ← hl]; simp
    simp only [hoi] at hp
    have hoki : oi.op.operands.all (okOpd n γ) = true := by
      have := List.all_eq_true.1 hok oi (List.mem_of_getElem? hli)
      exact this
    simp only [sel, hli] at h
    unfold SL at h
    rw [show (i :: ps).length + F = (ps.length + F) + 1 by simp; omega]
    split at h
    · exact h.elim
    · rename_i hw
      have hwt := wantedA_spec hF hw
      exact wpAny_take hoi hsel hf hr (fun c a w h => absurd h (hQ c _ w)) (.inr ⟨hwt, rfl⟩) (SL.sound_pureB hl hok hQ hsel hR ps _ _ _ hK hB' (hF.put (plainV_mk plainV_undef)) h)
    · rename_i hw
      have hwt := wantedA_spec hF hw
      split at h
      · rename_i v hx
        obtain ⟨v', h1, h2⟩ := xread_all hp hoki hx hR hF
        exact wpAny_take hoi hsel hf hr (fun c a w h => absurd h (hQ c _ w)) (.inl ⟨hwt, h2⟩) (SL.sound_pureB hl hok hQ hsel hR ps _ _ _ hK hB' (hF.put h1) h)
      · exact h.elim
/-- Such a region: first these (they look at no memory), then those in any order, then the rest from k on. -/
theorem aw_plan {id : Nat} {l : List Oper} (nd : List Tmp) (ps hs : List Nat) (k g : Nat) (hm : P.follows .mixedOrders = true) (hB : planB nd l.toArray ps hs k g = true) (hok : okL n γ l = true)
    (h : ∀ K : Fm → AH → Prop, (∀ α' H', Q .normal α' H' → K α' H') → SL P n γ l.toArray (fun α1 => PL P nro n γ nd l.toArray (fun α' N => XL P nro n γ l.toArray K (l.drop k) α' (H ++ N.map some)) H (sel l hs) α1 []) H (sel l ps) α) :
    AW P nro n γ (.region id l.toArray true) Q α H := by
  intro m base w a hR hF
  simp only [planB, Bool.and_eq_true, decide_eq_true_eq] at hB
  obtain ⟨⟨⟨⟨hsel, hn1⟩, hn2⟩, hpb⟩, hhb⟩ := hB
  simp only [headB, Bool.and_eq_true, decide_eq_true_eq] at hhb
  obtain ⟨⟨⟨⟨⟨hso, hcl⟩, hsz⟩, hop⟩, hrd⟩, hsq⟩ := hhb
  have hsorted := sortedB_spec hso
  refine wp_region_noPanic (wp_region_any hm ?_)
  have hR' : Rel nro base γ m H { w with drawn := w.drawn + 1 } := hR.drewN 1
  rw [← hn1]
  have hrep : Array.replicate (ps.length + (hs.length + g)) false = Array.replicate l.toArray.size false := by rw [hn1]
  rw [hrep]
  refine SL.sound_pureB rfl hok (fun c a w h => h) hsel hR' ps _ α a (fun a1 α1 hF1 hq => ?_) hpb hF (h _ fun _ _ h => h)
  have hhlt : ∀ i ∈ hs, i < l.length := fun i hi => by
    have k1 := List.all_eq_true.1 hop i hi
    unfold opOkB at k1
    split at k1
    · rename_i o ho
      simpa using (Array.getElem?_eq_some_iff.1 ho).1
    · cases k1
  obtain ⟨val, nb, Ns, hpl, hK⟩ := PL.plan rfl hs α1 [] (hsorted.imp (fun h => Nat.ne_of_lt h)) hhlt hq
  let c : PCtx := ⟨P, nro, n, base, γ, nd, m, H, l.toArray, hs, α1, { w with drawn := w.drawn + 1 }, setAll ps (Array.replicate l.toArray.size false), val, nb, Ns⟩
  have hc : c.Ok := ⟨hR', fun i o ho => List.all_eq_true.1 hok o (List.mem_of_getElem? (i := i) (by have h2 : l.toArray[i]? = some o := ho; simpa using h2)), hsel, hsorted, fun i hi => List.all_eq_true.1 hop i hi, hsz, hpl⟩
  have hnot : ∀ i ∈ hs, (setAll ps (Array.replicate l.toArray.size false)).getD i false = false := fun i hi => by
    have k1 := List.all_eq_true.1 hop i hi
    unfold opOkB at k1
    split at k1
    case h_2 => cases k1
    simp only [Bool.and_eq_true, Bool.not_eq_true'] at k1
    exact getD_both k1.1.1.1
  have hinv : PInv c (setAll ps (Array.replicate l.toArray.size false)) a1 { w with drawn := w.drawn + 1 } (fun _ => none) :=
    ⟨hF1.defers, hF1.size, .refl _ _, hsz, fun x h => h, fun x h => .inl h, closedB_spec hcl, fun t ht _ => hF1.val t ht, fun i hi o t ho hl => (by rw [hnot i hi] at hl; cases hl), fun j e h => (by cases h), fun j j' e e' _ h => (by cases h), fun i hi hl => (by rw [hnot i hi] at hl; cases hl), fun j e h => (by cases h)⟩
  have hlen : (hs.filter fun i => !(setAll ps (Array.replicate l.toArray.size false)).getD i false).length = hs.length := by
    rw [List.filter_eq_self.2 fun i hi => by rw [hnot i hi]; rfl]
  refine plan_run hc (g := g) hrd (fun a2 w2 m2 hm2 hR2 hF2 hb2 => ?_) hs.length _ a1 _ _ hinv hlen
  have hdl : (l.drop k).length = g := by
    have : l.toArray.size = l.length := by simp
    simp; omega
  have hseq := wpAny_of_seq (P := P) (md := .any) (ops := l.toArray) (Q' := NoPanic (Con nro n γ m base w Q)) (l.drop k) k (setAll hs (setAll ps (Array.replicate l.toArray.size false))) a2 w2 (fun j => by simp [List.getElem?_drop]) (by rw [hdl]; exact hsq) ?_
  · rwa [hdl] at hseq
  have := XL.sound (Q := fun e α H => match e with | .panic _ => False | e => Q e α H) _ _ _ (okL_take hok k).2 hK m2 base w2 a2 hR2 hF2
  refine wpList_mono (fun e a w' hc' => ?_) _ _ _ this
  have hc2 := Con.trans (w := w2) hm2 ((Below.drew (.refl base w)).trans (hb2.mono hR'.base_le)) hc'
  cases e with
  | panic c => obtain ⟨_, _, _, _, _, _, _, hf⟩ := hc2; exact hf
  | _ => exact hc2
/-- A function that answers a new row, and turns nothing that was there: the row stands behind all that was. -/
theorem ac_of_fresh {f : FuncId} {args : Array Value} {b : Blk} {len : Nat} {Q : Value → AH → Prop} (h : AC P H.length γ f args H (Fresh H.length b len)) (hp : b.cells.all plain1 = true)
    (hq : Q (.slice (some ⟨H.length, 0, none⟩) len len) (H ++ [some b])) : AC P nro γ f args H Q := by
  intro m base w args' hR hsz hva
  refine (h m w.heap.size w args' hR.freeze hsz hva).mono ?_
  rintro e w' ⟨m', v1, v', H', rfl, hm, hv', hR', hb, j0, hj0, rfl, hgt⟩
  have hj0' : j0 < m'.length := by rw [hR'.len]; exact (List.getElem?_eq_some_iff.1 (hget_some hgt)).1
  obtain ⟨e, he⟩ : ∃ e, m'[j0]? = some e := ⟨_, List.getElem?_eq_getElem hj0'⟩
  obtain ⟨hfresh, heo⟩ := hR'.own j0 e hj0 he
  obtain ⟨cs, fr, g1, g2, g3, g4, g5⟩ := hR'.cells j0 b e (hget_some hgt) he
  obtain ⟨e2, c', _, he2, hl, hs, rfl⟩ := hv'.sl_
  rw [he] at he2
  cases he2
  have hadd := (hR.below hb).add (w' := w') (b := e.b) (cs := cs) (ty := b.ty) (fr := fr) (es := b.es) (cells := b.cells) (Nat.le_refl _) (fun _ _ _ _ _ => rfl) (Nat.le_trans hR.base_le hfresh) g1 (g4 hj0).1 (g4 hj0).2 (fun i k e' hi hk he' => by have := hR.inb i e' he'; omega)
    (fun j x hx => by
      obtain ⟨y, p, q⟩ := g5 j x hx
      rw [heo, Nat.zero_add] at p
      have := q.eq (List.all_eq_true.1 hp x (List.mem_of_getElem? hx))
      subst this
      exact ⟨y, p, .plain (List.all_eq_true.1 hp y (List.mem_of_getElem? hx))⟩)
  have he0 : e = ⟨e.b, 0, cs.size, b.es⟩ := by
    have h1 := g2 hj0
    cases e; simp_all
  rw [← he0] at hadd
  refine ⟨m ++ [e], _, _, _, rfl, pre_app _ _, ?_, hadd, hb.mono hR.base_le, hq⟩
  have : V (m ++ [e]) (.slice (some ⟨H.length, 0, none⟩) len len) (.slice (some ⟨e.b, e.o + 0, none⟩) len c') := .one (.sl (by rw [← hR.len]; simp) hl (fun _ s h => hs rfl s h))
  exact this
end
end Go.Proofs.YtjfhdckcjkgjnaaDoor
