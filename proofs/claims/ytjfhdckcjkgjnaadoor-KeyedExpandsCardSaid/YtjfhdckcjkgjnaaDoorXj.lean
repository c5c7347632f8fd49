/-
  The same: the states between, one step, the end. Over any program.
-/
import Derived.Test.YtjfhdckcjkgjnaaDoorXi
namespace Go.Proofs.YtjfhdckcjkgjnaaDoor
open Go Go.RowKit
set_option linter.unusedVariables false
set_option linter.unusedSimpArgs false

/-- What is fixed: the plan, and the state ahead. -/
structure PCtx where
  P : Program
  nro : Nat
  n : Nat
  base : Nat
  γ : Nat → Option Nat
  nd : List Tmp
  m : List Ent
  H : AH
  ops : Array Oper
  hs : List Nat
  α : Fm
  w0 : World
  listed0 : Array Bool
  val : Nat → Value
  nb : Nat → Option Blk
  Ns : Nat → List Blk
/-- What holds of it. -/
structure PCtx.Ok (c : PCtx) : Prop where
  rel : Rel c.nro c.base c.γ c.m c.H c.w0
  ok : ∀ (i : Nat) (o : Oper), c.ops[i]? = some o → o.op.operands.all (okOpd c.n c.γ) = true
  sel : Region.noSelect c.ops = true
  sorted : c.hs.Pairwise (· < ·)
  head : ∀ i ∈ c.hs, opOkB c.nd c.ops c.hs c.listed0 i = true
  size0 : c.listed0.size = c.ops.size
  plan : Planned c.P c.nro c.n c.γ c.nd c.ops c.H c.val c.nb c.Ns c.hs c.α []
/-- A state between. -/
structure PInv (c : PCtx) (listed : Array Bool) (a : Act) (w : World) (E : Nat → Option Ent) : Prop where
  dfr : a.defers = []
  size : a.tmps.size = c.n
  below : Below c.w0.heap.size c.w0 w
  lsz : listed.size = c.ops.size
  sub : ∀ x, c.listed0.getD x false = true → listed.getD x false = true
  only : ∀ x, listed.getD x false = true → c.listed0.getD x false = true ∨ x ∈ c.hs
  closed : Closed c.ops listed
  old : ∀ t, t < c.n → (∀ i ∈ c.hs, listed.getD i false = true → dstO c.ops i ≠ some t) → V c.m (c.α t) (a.tmps.getD t undef)
  got : ∀ i ∈ c.hs, ∀ (o : Oper) (t : Tmp), c.ops[i]? = some o → listed.getD i false = true → o.dst = some t → t < c.n → V c.m (c.val i) (a.tmps.getD t undef) ∨ (newOp c.nd o = true ∧ VN c.H.length E (c.val i) (a.tmps.getD t undef))
  ent : ∀ (j : Nat) (e : Ent), E j = some e → c.w0.heap.size ≤ e.b ∧ ∃ b, (endN c.nb c.hs [])[j]? = some b ∧ BlkOk w e b
  dist : ∀ (j j' : Nat) (e e' : Ent), j ≠ j' → E j = some e → E j' = some e' → e.b ≠ e'.b
  all : ∀ i ∈ c.hs, listed.getD i false = true → (c.nb i).isSome = true → (E (c.Ns i).length).isSome = true
  from' : ∀ (j : Nat) (e : Ent), E j = some e → ∃ i ∈ c.hs, (c.nb i).isSome = true ∧ (c.Ns i).length = j ∧ listed.getD i false = true

section
variable {c : PCtx} {listed : Array Bool} {a : Act} {w : World} {E : Nat → Option Ent}
theorem PCtx.Ok.dst (hc : c.Ok) {i j : Nat} (hi : i ∈ c.hs) (hj : j ∈ c.hs) (hne : i ≠ j) {t : Tmp} (h : dstO c.ops i = some t) : dstO c.ops j ≠ some t := by
  have h1 := hc.head i hi
  unfold opOkB at h1
  split at h1
  case h_2 => cases h1
  rename_i o ho
  simp only [Bool.and_eq_true, Bool.not_eq_true'] at h1
  have h2 := h1.1.1.2
  unfold seesB at h2
  have h3 := List.all_eq_true.1 h2 j hj
  simp only [Bool.or_eq_true, decide_eq_true_eq] at h3
  rcases h3 with h3 | h3
  · exact absurd h3.symm hne
  · intro e
    rw [e] at h3
    simp only [Bool.and_eq_true, decide_eq_true_eq] at h3
    have : dstO c.ops i = o.dst := by simp [dstO, ho]
    exact h3.1 (this ▸ h)
theorem getD_set_self {l : Array Bool} {i : Nat} (h : i < l.size) : (l.setIfInBounds i true).getD i false = true := by simp [h]
theorem getD_lt {l : Array Bool} {i : Nat} (h : l.getD i false = true) : i < l.size := by
  rcases Nat.lt_or_ge i l.size with h' | h'
  · exact h'
  · simp [Array.getElem?_eq_none h'] at h
/-- The next state. -/
theorem PInv.next (hc : c.Ok) (h : PInv c listed a w E) {i : Nat} {o : Oper} (hi : i ∈ c.hs) (ho : c.ops[i]? = some o) (hun : listed.getD i true = false) (hall : ∀ e ∈ o.after, Region.binds .any e = true → listed.getD e.on false = true)
    {v' : Value} {w' : World} {E' : Nat → Option Ent} (hE : ∀ (j : Nat) (e : Ent), E j = some e → E' j = some e) (hb : Below c.w0.heap.size c.w0 w')
    (hent : ∀ (j : Nat) (e : Ent), E' j = some e → c.w0.heap.size ≤ e.b ∧ ∃ b, (endN c.nb c.hs [])[j]? = some b ∧ BlkOk w' e b) (hdist : ∀ (j j' : Nat) (e e' : Ent), j ≠ j' → E' j = some e → E' j' = some e' → e.b ≠ e'.b)
    (hnb : (c.nb i).isSome = true → (E' (c.Ns i).length).isSome = true) (hfrom : ∀ (j : Nat) (e : Ent), E' j = some e → E j = some e ∨ ((c.nb i).isSome = true ∧ (c.Ns i).length = j))
    (htr : ∀ t, o.dst = some t → t < c.n → V c.m (c.val i) v' ∨ (newOp c.nd o = true ∧ VN c.H.length E' (c.val i) v')) :
    PInv c (listed.setIfInBounds i true) (a.put o.dst v') w' E' := by
  have hil : i < listed.size := by rw [h.lsz]; exact (Array.getElem?_eq_some_iff.1 ho).1
  have hd : dstO c.ops i = o.dst := by simp [dstO, ho]
  have put_get : ∀ t, o.dst ≠ some t → (a.put o.dst v').tmps.getD t undef = a.tmps.getD t undef := by
    intro t ht
    cases hq : o.dst with
    | none => rfl
    | some d =>
      have : d ≠ t := fun e => ht (by rw [hq, e])
      simp [Act.put, Array.getElem?_setIfInBounds_ne this]
  have put_self : ∀ t, o.dst = some t → t < c.n → (a.put o.dst v').tmps.getD t undef = v' := by
    intro t ht hn
    have : t < a.tmps.size := by rw [h.size]; exact hn
    rw [ht]
    simp [Act.put, this]
  have lget : ∀ x, (listed.setIfInBounds i true).getD x false = true → x = i ∨ listed.getD x false = true := by
    intro x hx
    by_cases e : i = x
    · exact .inl e.symm
    · rw [getD_set_ne false e] at hx; exact .inr hx
  refine ⟨?_, ?_, hb, by simpa using h.lsz, fun x hx => getD_set_true (h.sub x hx), fun x hx => ?_, h.closed.put ho hall, fun t ht hw => ?_, fun i' hi' o' t ho' hl' hdt ht => ?_, hent, hdist, fun i' hi' hl' hn => ?_, fun j e he => ?_⟩
  · cases hq : o.dst <;> simpa [Act.put, hq] using h.dfr
  · cases hq : o.dst <;> simpa [Act.put, hq] using h.size
  · rcases lget x hx with rfl | hx
    · exact .inr hi
    · exact h.only x hx
  · have h1 : o.dst ≠ some t := by
      have := hw i hi (getD_set_self hil)
      rwa [hd] at this
    rw [put_get t h1]
    exact h.old t ht fun i' hi' hl' => hw i' hi' (getD_set_true hl')
  · by_cases e : i' = i
    · subst e
      obtain rfl : o = o' := Option.some.inj (ho.symm.trans ho')
      rw [put_self t hdt ht]
      exact htr t hdt ht
    · have hl2 : listed.getD i' false = true := by rcases lget i' hl' with e' | h'; exact absurd e' e; exact h'
      have h1 : o.dst ≠ some t := by
        have := hc.dst hi' hi e (t := t) (by simp [dstO, ho', hdt])
        rwa [hd] at this
      rw [put_get t h1]
      rcases h.got i' hi' o' t ho' hl2 hdt ht with h2 | ⟨h2, h3⟩
      · exact .inl h2
      · exact .inr ⟨h2, h3.mono hE⟩
  · by_cases e : i' = i
    · subst e; exact hnb hn
    · have hl2 : listed.getD i' false = true := by rcases lget i' hl' with e' | h'; exact absurd e' e; exact h'
      obtain ⟨e', he'⟩ := Option.isSome_iff_exists.1 (h.all i' hi' hl2 hn)
      rw [hE _ _ he']; rfl
  · rcases hfrom j e he with h1 | ⟨h1, h2⟩
    · obtain ⟨i', k1, k2, k3, k4⟩ := h.from' j e h1
      exact ⟨i', k1, k2, k3, getD_set_true k4⟩
    · exact ⟨i, hi, h1, h2, getD_set_self hil⟩
/-- What an operation looks at. -/
theorem PInv.looks (hc : c.Ok) (h : PInv c listed a w E) {i : Nat} {o : Oper} (hi : i ∈ c.hs) (ho : c.ops[i]? = some o) (hun : listed.getD i true = false) (hall : ∀ e ∈ o.after, Region.binds .any e = true → listed.getD e.on false = true)
    {β : Fm} (h1 : ∀ t, (∀ j ∈ c.hs, j < i → dstO c.ops j ≠ some t) → β t = c.α t) (h2 : ∀ j ∈ c.hs, j < i → ∀ t, dstO c.ops j = some t → (∀ j' ∈ c.hs, j' ≠ j → dstO c.ops j' ≠ some t) → β t = c.val j) :
    ∀ t ∈ o.looksAt c.ops, t < c.n → V c.m (β t) (a.tmps.getD t undef) ∨ ∃ j ∈ c.hs, ∃ oj, c.ops[j]? = some oj ∧ newOp c.nd oj = true ∧ oj.dst = some t ∧ listed.getD j false = true ∧ VN c.H.length E (β t) (a.tmps.getD t undef) := by
  intro t htl htn
  have hi0 := getD_both hun
  by_cases hw : ∃ j ∈ c.hs, j ≠ i ∧ dstO c.ops j = some t
  · obtain ⟨j, hj, hne, hd⟩ := hw
    have hother : ∀ j' ∈ c.hs, j' ≠ j → dstO c.ops j' ≠ some t := fun j' hj' hn => hc.dst hj hj' (Ne.symm hn) hd
    have k1 := hc.head i hi
    unfold opOkB at k1
    rw [ho] at k1
    simp only [Bool.and_eq_true, Bool.not_eq_true'] at k1
    have k2 := k1.1.1.2
    unfold seesB at k2
    have k3 := List.all_eq_true.1 k2 j hj
    simp only [Bool.or_eq_true, decide_eq_true_eq] at k3
    rcases k3 with k3 | k3
    · exact absurd k3 hne
    rw [hd] at k3
    simp only [Bool.and_eq_true, Bool.or_eq_true, decide_eq_true_eq, Bool.not_eq_true'] at k3
    rcases k3.2 with k4 | ⟨hlt, k4⟩ | ⟨hlt, k4⟩
    · have : (o.looksAt c.ops).contains t = true := by simpa using htl
      rw [this] at k4; cases k4
    · obtain ⟨o2, ho2, e, he, hb, hon⟩ := Region.waitsFor_spec k4
      obtain rfl : o = o2 := Option.some.inj (ho.symm.trans ho2)
      have hl := hall e he hb
      rw [hon] at hl
      rw [h2 j hj hlt t hd hother]
      obtain ⟨oj, hoj, hdj⟩ : ∃ oj, c.ops[j]? = some oj ∧ oj.dst = some t := by
        unfold dstO at hd
        cases hq : c.ops[j]? with
        | none => rw [hq] at hd; cases hd
        | some oj => rw [hq] at hd; exact ⟨oj, rfl, hd⟩
      rcases h.got j hj oj t hoj hl hdj htn with h3 | ⟨h3, h4⟩
      · exact .inl h3
      · exact .inr ⟨j, hj, oj, hoj, h3, hdj, hl, h4⟩
    · have hjl : listed.getD j false = false := by
        cases hq : listed.getD j false with
        | false => rfl
        | true =>
          obtain ⟨o2, ho2, e, he, hb, hon⟩ := Region.waitsFor_spec k4
          have hqt : listed.getD j true = true := by
            have := getD_lt hq
            simp [this] at hq ⊢; exact hq
          have := h.closed j o2 ho2 hqt e he hb
          rw [hon, hi0] at this
          cases this
      left
      rw [h1 t fun j' hj' hlt' => hother j' hj' (by omega)]
      refine h.old t htn fun i' hi' hl' => hother i' hi' (fun e => ?_)
      rw [e, hjl] at hl'; cases hl'
  · left
    have hw' : ∀ j ∈ c.hs, j ≠ i → dstO c.ops j ≠ some t := fun j hj hne hd => hw ⟨j, hj, hne, hd⟩
    rw [h1 t fun j hj hlt => hw' j hj (by omega)]
    refine h.old t htn fun i' hi' hl' => hw' i' hi' (fun e => ?_)
    rw [e, hi0] at hl'; cases hl'
theorem guard_looks {ops : Array Oper} {o : Oper} {d : Tmp} (h : d ∈ guardT ops o) : d ∈ o.looksAt ops := by
  refine List.mem_append_right _ ?_
  unfold guardT dstO at h
  split at h
  · rename_i g b hg; simpa [hg] using h
  · cases h
theorem oldB_spec {nd : List Tmp} {ops : Array Oper} {hs : List Nat} {o : Oper} (h : oldB nd ops hs o = true) {j : Nat} (hj : j ∈ hs) {oj : Oper} (hoj : ops[j]? = some oj) (ha : newOp nd oj = true) {t : Tmp} (hd : oj.dst = some t) :
    t ∉ (if isCallF o.op || lookF o.op then guardT ops o else o.looksAt ops) := by
  have h1 := List.all_eq_true.1 h j hj
  rw [hoj] at h1
  simp only [ha, hd, Bool.not_true, Bool.false_or, Bool.not_eq_true'] at h1
  intro hm
  have : (if isCallF o.op || lookF o.op then guardT ops o else o.looksAt ops).contains t = true := by simpa using hm
  rw [this] at h1
  cases h1
/-- All have come up. -/
theorem PInv.finish (hc : c.Ok) (h : PInv c listed a w E) (hdone : ∀ i ∈ c.hs, listed.getD i false = true) : ∃ m', c.m <+: m' ∧ Rel c.nro c.base c.γ m' (c.H ++ (endN c.nb c.hs []).map some) w ∧ FR c.n m' (endF c.ops c.val c.hs c.α) a := by
  have hnd : c.hs.Nodup := hc.sorted.imp (fun h => Nat.ne_of_lt h)
  have hcov : ∀ j, j < (endN c.nb c.hs []).length → ∃ e, E j = some e := by
    intro j hj
    obtain ⟨i, hi, k1, k2⟩ := Planned.cover c.hs c.α [] hc.plan j (Nat.zero_le _) hj
    have := h.all i hi (hdone i hi) k2
    rw [k1] at this
    exact Option.isSome_iff_exists.1 this
  obtain ⟨N, hN⟩ : ∃ N, N = endN c.nb c.hs [] := ⟨_, rfl⟩
  let mN := (List.range N.length).map fun j => (E j).getD ⟨0, 0, 0, none⟩
  have hmN : ∀ j e, j < N.length → E j = some e → mN[j]? = some e := by
    intro j e hj he
    simp [mN, hj, he]
  have hget : ∀ (j : Nat) (e : Ent), mN[j]? = some e → j < N.length ∧ E j = some e := by
    intro j e he
    have hj : j < N.length := by
      have := (List.getElem?_eq_some_iff.1 he).1
      simpa [mN] using this
    obtain ⟨e', he'⟩ := hcov j (by rw [← hN]; exact hj)
    have := hmN j e' hj he'
    rw [he] at this
    cases this
    exact ⟨hj, he'⟩
  have hlow : ∀ (i : Nat) (e : Ent), c.m[i]? = some e → e.b < c.w0.heap.size := hc.rel.inb
  refine ⟨c.m ++ mN, List.prefix_append _ _, ?_, ?_⟩
  · rw [← hN]
    refine Rel.addAll N mN c.m c.H (hc.rel.below h.below) (by simp [mN]) (fun j b e hj he => ?_) (fun i j e e' hi he => ?_) (fun i j e e' hne h1 h2 => ?_)
    · obtain ⟨h1, h2⟩ := hget j e he
      obtain ⟨k1, b', k2, k3⟩ := h.ent j e h2
      rw [← hN, hj] at k2
      cases k2
      exact ⟨k3, Nat.le_trans hc.rel.base_le k1⟩
    · have := hlow i e hi
      have := (h.ent j e' (hget j e' he).2).1
      omega
    · exact h.dist i j e e' hne (hget i e h1).2 (hget j e' h2).2
  · refine ⟨h.dfr, h.size, fun t ht => ?_⟩
    obtain ⟨k1, k2⟩ := Planned.end_at c.hs c.α [] hnd hc.plan
    by_cases hw : ∃ j ∈ c.hs, dstO c.ops j = some t
    · obtain ⟨j, hj, hd⟩ := hw
      rw [k2 j hj t hd fun j' hj' hne => hc.dst hj hj' (Ne.symm hne) hd]
      obtain ⟨oj, hoj, hdj⟩ : ∃ oj, c.ops[j]? = some oj ∧ oj.dst = some t := by
        unfold dstO at hd
        cases hq : c.ops[j]? with
        | none => rw [hq] at hd; cases hd
        | some oj => rw [hq] at hd; exact ⟨oj, rfl, hd⟩
      rcases h.got j hj oj t hoj (hdone j hj) hdj ht with h3 | ⟨_, h4⟩
      · exact h3.mono (List.prefix_append _ _)
      · refine h4.v (fun j e he => ?_) (fun j e he => (h.ent j e he).2.choose_spec.2.1)
        rw [← hc.rel.len, List.getElem?_append_right (Nat.le_add_right _ _), Nat.add_sub_cancel_left]
        obtain ⟨_, b, hb, _⟩ := h.ent j e he
        exact hmN j e (by rw [hN]; exact (List.getElem?_eq_some_iff.1 hb).1) he
    · have hw' : ∀ j ∈ c.hs, dstO c.ops j ≠ some t := fun j hj hd => hw ⟨j, hj, hd⟩
      rw [k1 t hw']
      exact (h.old t ht fun i hi _ => hw' i hi).mono (List.prefix_append _ _)
end
end Go.Proofs.YtjfhdckcjkgjnaaDoor
