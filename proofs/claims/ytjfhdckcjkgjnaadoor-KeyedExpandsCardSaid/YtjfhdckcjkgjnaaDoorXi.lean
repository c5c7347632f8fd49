/-
  The same: that it holds of the machine. Over any program.
-/
import Derived.Test.YtjfhdckcjkgjnaaDoorXh
namespace Go.Proofs.YtjfhdckcjkgjnaaDoor
open Go Go.RowKit
set_option linter.unusedVariables false
set_option linter.unusedSimpArgs false

def seesB (ops : Array Oper) (hs : List Nat) (i : Nat) (o : Oper) : Bool :=
  hs.all fun j => decide (j = i) || (match dstO ops j with
    | none => true
    | some d => decide (o.dst ≠ some d) && (!(o.looksAt ops).contains d || ((decide (j < i) && Region.waitsFor .any ops i j) || (decide (i < j) && Region.waitsFor .any ops j i))))
def guardT (ops : Array Oper) (o : Oper) : List Tmp := match o.guard with | some (g, _) => (dstO ops g).toList | none => []
def oldB (nd : List Tmp) (ops : Array Oper) (hs : List Nat) (o : Oper) : Bool :=
  hs.all fun j => match ops[j]? with
    | some oj => !newOp nd oj || (match oj.dst with | some d => !(if isCallF o.op || lookF o.op then guardT ops o else o.looksAt ops).contains d | none => true)
    | none => true
def sortedB : List Nat → Bool
  | [] => true
  | [_] => true
  | i :: j :: l => decide (i < j) && sortedB (j :: l)
theorem sortedB_spec : ∀ {l : List Nat}, sortedB l = true → l.Pairwise (· < ·)
  | [], _ => .nil
  | [x], _ => List.pairwise_singleton _ x
  | i :: j :: l, h => by
    simp only [sortedB, Bool.and_eq_true, decide_eq_true_eq] at h
    have h2 := sortedB_spec h.2
    refine List.pairwise_cons.2 ⟨fun x hx => ?_, h2⟩
    rcases List.mem_cons.1 hx with rfl | hx
    · exact h.1
    · exact Nat.lt_trans h.1 ((List.pairwise_cons.1 h2).1 x hx)
def setAll (hs : List Nat) (listed : Array Bool) : Array Bool := hs.foldl (fun l i => l.setIfInBounds i true) listed
def opOkB (nd : List Tmp) (ops : Array Oper) (hs : List Nat) (listed : Array Bool) (i : Nat) : Bool :=
  match ops[i]? with
  | some o => !(listed.getD i true) && seesB ops hs i o && oldB nd ops hs o && o.after.all (fun e => !(Region.binds .any e) || listed.getD e.on false || (hs.contains e.on && decide (e.on < i)))
  | none => false
def headB (nd : List Tmp) (ops : Array Oper) (hs : List Nat) (k g : Nat) (listed : Array Bool) : Bool :=
  sortedB hs && closedB ops listed && decide (listed.size = ops.size) && hs.all (opOkB nd ops hs listed) && (Region.ready .any ops (setAll hs listed)).all (fun j => hs.all fun i => waitsT ops ops.size j i) && Region.seqB .any ops g k (setAll hs listed)

theorem setAll_size : ∀ (hs : List Nat) (listed : Array Bool), (setAll hs listed).size = listed.size
  | [], _ => rfl
  | i :: hs, listed => by
    show (setAll hs (listed.setIfInBounds i true)).size = _
    rw [setAll_size hs]; simp
theorem setAll_get : ∀ (hs : List Nat) (listed : Array Bool) (x : Nat), x < listed.size → ((setAll hs listed).getD x false = true ↔ listed.getD x false = true ∨ x ∈ hs)
  | [], listed, x, _ => by simp [setAll]
  | i :: hs, listed, x, hx => by
    show (setAll hs (listed.setIfInBounds i true)).getD x false = true ↔ _
    rw [setAll_get hs _ x (by simpa using hx)]
    by_cases e : i = x
    · subst e
      simp [hx]
    · rw [getD_set_ne false e]
      simp [Ne.symm e]

section
variable {P : Program} {nro n base : Nat} {γ : Nat → Option Nat} {m : List Ent} {H : AH} {α : Fm} {a : Act} {w : World} {ops : Array Oper} {K : Fm → List Blk → Prop} {N : List Blk}

theorem eval_ev (hR : Rel nro base γ m H w) {x : Operand} (hok : okOpd n γ x = true) (ht : ∀ t, x = .tmp t → t < n → V m (α t) (a.tmps.getD t undef)) : V m (α.eval γ x) (a.eval x) := by
  cases x with
  | tmp t => exact ht t rfl (by simpa [okOpd] using hok)
  | const v => exact plainV_mk hok
  | global g =>
    simp only [okOpd] at hok
    obtain ⟨i, hi⟩ := Option.isSome_iff_exists.1 hok
    obtain ⟨e, h1, h2, h3⟩ := hR.glob g i hi
    have h4 : α.eval γ (.global g) = .pointer (some ⟨i, 0, none⟩) := by simp [Fm.eval, hi]
    have h5 : a.eval (.global g) = .pointer (some ⟨e.b, e.o + 0, none⟩) := by simp [Act.eval, h2, h3]
    rw [h4, h5]
    exact .one (.ptr h1)
  | func f => exact .one (.plain rfl)
theorem wantedA_ev {o : Oper} (hsz : a.tmps.size = n) (hv : ∀ d, d ∈ guardT ops o → d < n → V m (α d) (a.tmps.getD d undef)) {b : Bool} (h : wantedA ops n α o = some b) : Region.wanted o (yielded ops a.tmps) = b := by
  unfold wantedA at h
  unfold Region.wanted
  cases hg : o.guard with
  | none => rw [hg] at h; exact Option.some.inj h
  | some jw =>
    obtain ⟨j, want⟩ := jw
    rw [hg] at h
    show (yielded ops a.tmps j == some want) = b
    unfold yielded
    cases hd : (ops[j]?).bind (·.dst) with
    | none => simp only [hd] at h; cases h
    | some d =>
      simp only [hd] at h
      by_cases hn : d < n
      · rw [if_pos hn] at h
        have hv := hv d (by unfold guardT; simp [hg, dstO, hd]) hn
        have hget : a.tmps[d]? = some (a.tmps.getD d undef) := by
          have : d < a.tmps.size := by rw [hsz]; exact hn
          simp [this]
        unfold wb at h
        split at h
        · rename_i b' hb
          rw [hb] at hv
          have h1 := hv.eq rfl
          have h3 : (some d).bind (fun x => a.tmps[x]?) = some (.bool b') := by show a.tmps[d]? = _; rw [hget, h1]
          rw [h3]
          simp only [Option.some.injEq] at h
          rw [← h]
          simp
        · rename_i vs hb
          rw [hb] at hv
          have h1 : ∃ ds, a.tmps.getD d undef = .tuple ds := by
            generalize a.tmps.getD d undef = y at hv
            cases hv with
            | two h => cases h with | one h => cases h with | plain h => cases h
            | tup _ _ => exact ⟨_, rfl⟩
          obtain ⟨ds, h1⟩ := h1
          have h3 : (some d).bind (fun x => a.tmps[x]?) = some (.tuple ds) := by show a.tmps[d]? = _; rw [hget, h1]
          rw [h3]
          simp only [Option.some.injEq] at h
          rw [← h]
          rfl
        · cases h
      · rw [if_neg hn] at h; cases h
theorem xeff_alloc {op : Op} {v0 : Value} {H' : AH} (ha : allocOp op = true) (h : xeff P nro γ op α H = some (v0, H')) :
    (∃ b, H' = H ++ [some b]) ∧ (v0 = .pointer (some ⟨H.length, 0, none⟩) ∨ ∃ l, v0 = .slice (some ⟨H.length, 0, none⟩) l l) ∧ ∀ nro', xeff P nro' γ op α H = some (v0, H') := by
  refine ⟨?_, ?_, ?_⟩
  · cases op <;> first | (cases ha; done) | skip
    all_goals
      simp only [xeff] at h
      repeat' split at h
      all_goals first | (cases h; done) | (cases h; exact ⟨_, rfl⟩)
  · cases op <;> first | (cases ha; done) | skip
    all_goals
      simp only [xeff] at h
      repeat' split at h
      all_goals first | (cases h; done) | (cases h; exact .inl rfl) | (cases h; exact .inr ⟨_, rfl⟩)
  · intro nro'
    cases op <;> first | (cases ha; done) | exact h
/-- A new row, as it lies. -/
def BlkOk (w : World) (e : Ent) (b : Blk) : Prop :=
  e.o = 0 ∧ e.es = b.es ∧ b.cells.all plain1 = true ∧ ∃ cs fr, w.heap[e.b]? = some (.cells cs b.ty fr) ∧ cs.size = e.sz ∧ (∀ o, o < cs.size → ¬ (fr.1 ≤ o ∧ o < fr.2)) ∧ (b.es.isSome = true → fr = (0, 0)) ∧ ∀ (j : Nat) (x : Value), b.cells[j]? = some x → cs[j]? = some x
theorem BlkOk.below {w w' : World} {e : Ent} {b : Blk} (h : BlkOk w e b) (hb : Below w.heap.size w w') : BlkOk w' e b := by
  obtain ⟨h1, h2, h3, cs, fr, h4, h5⟩ := h
  exact ⟨h1, h2, h3, cs, fr, (hb.block _ (Array.getElem?_eq_some_iff.1 h4).1).trans h4, h5⟩
/-- A value that names a new row. -/
def VN (h : Nat) (E : Nat → Option Ent) (v v' : Value) : Prop :=
  ∃ j e, E j = some e ∧ ((v = .pointer (some ⟨h + j, 0, none⟩) ∧ v' = .pointer (some ⟨e.b, 0, none⟩)) ∨
    ∃ l c, v = .slice (some ⟨h + j, 0, none⟩) l l ∧ v' = .slice (some ⟨e.b, 0, none⟩) l c ∧ l ≤ c ∧ ∀ s, e.es = some s → c * s = e.sz ∧ c ≤ maxLen)
theorem VN.v {h : Nat} {E : Nat → Option Ent} {v v' : Value} (hv : VN h E v v') {m' : List Ent} (hm : ∀ j e, E j = some e → m'[h + j]? = some e) (ho : ∀ j e, E j = some e → e.o = 0) : V m' v v' := by
  obtain ⟨j, e, he, ⟨rfl, rfl⟩ | ⟨l, c, rfl, rfl, hl, hs⟩⟩ := hv
  · have := V.one (V1.ptr (off := 0) (hm j e he))
    simpa [ho j e he] using this
  · have := V.one (V1.sl (off := 0) (hm j e he) hl (fun _ s h => hs s h))
    simpa [ho j e he] using this
theorem VN.mono {h : Nat} {E E' : Nat → Option Ent} {v v' : Value} (hv : VN h E v v') (hE : ∀ j e, E j = some e → E' j = some e) : VN h E' v v' :=
  let ⟨j, e, he, r⟩ := hv
  ⟨j, e, hE j e he, r⟩
/-- New rows lie behind those that are known: for a callee that only reads. -/
theorem Rel.news (hR : Rel nro base γ m H w) {L : AH} {mL : List Ent} (hl : mL.length = L.length) (h : ∀ (j : Nat) (e : Ent), mL[j]? = some e → e.b < w.heap.size)
    (hc : ∀ (j : Nat) (b : Blk) (e : Ent), L[j]? = some (some b) → mL[j]? = some e → BlkOk w e b) : Rel (H ++ L).length w.heap.size γ (m ++ mL) (H ++ L) w := by
  have hpre : m <+: m ++ mL := List.prefix_append _ _
  have inb : ∀ (i : Nat) (e : Ent), (m ++ mL)[i]? = some e → e.b < w.heap.size := fun i e he => by
    rcases Nat.lt_or_ge i m.length with hi | hi
    · rw [List.getElem?_append_left hi] at he; exact hR.inb i e he
    · rw [List.getElem?_append_right hi] at he; exact h _ e he
  refine ⟨by simp [hR.len, hl], Nat.le_refl _, Nat.le_refl _, inb, fun i e _ he => inb i e he, fun i e hi he => ?_, fun i k e hk he => ?_, fun i j ki kj ei ej hi hj _ hki => ?_, fun g i hg => ?_⟩
  · have := (List.getElem?_eq_some_iff.1 he).1
    simp [hR.len, hl] at this hi
    omega
  · have hlt := (List.getElem?_eq_some_iff.1 hk).1
    rcases Nat.lt_or_ge i m.length with hi | hi
    · rw [List.getElem?_append_left hi] at he
      rw [List.getElem?_append_left (by rw [← hR.len]; exact hi)] at hk
      obtain ⟨cs, fr, h1, h2, h3, h4, h5⟩ := hR.cells i k e hk he
      exact ⟨cs, fr, h1, fun hn => by omega, h3, fun hn => by omega, fun j x hx => let ⟨y, p, q⟩ := h5 j x hx; ⟨y, p, q.mono hpre⟩⟩
    · rw [List.getElem?_append_right hi] at he
      rw [List.getElem?_append_right (by rw [← hR.len]; exact hi), ← hR.len] at hk
      obtain ⟨h1, h2, h3, cs, fr, h4, h5, h6, h7, h8⟩ := hc _ k e hk he
      exact ⟨cs, fr, h4, fun hn => by omega, h2, fun hn => by omega, fun j x hx => ⟨x, by rw [h1, Nat.zero_add]; exact h8 j x hx, .plain (List.all_eq_true.1 h3 x (List.mem_of_getElem? hx))⟩⟩
  · have := (List.getElem?_eq_some_iff.1 hki).1
    omega
  · obtain ⟨e, h1, h2⟩ := hR.glob g i hg
    exact ⟨e, pre_get hpre h1, h2⟩
/-- New rows, of the function's own. -/
theorem Rel.addAll : ∀ (N : List Blk) (mN m : List Ent) (H : AH), Rel nro base γ m H w → mN.length = N.length →
    (∀ (j : Nat) (b : Blk) (e : Ent), N[j]? = some b → mN[j]? = some e → BlkOk w e b ∧ base ≤ e.b) → (∀ (i j : Nat) (e e' : Ent), m[i]? = some e → mN[j]? = some e' → e.b ≠ e'.b) → (∀ (i j : Nat) (e e' : Ent), i ≠ j → mN[i]? = some e → mN[j]? = some e' → e.b ≠ e'.b) →
    Rel nro base γ (m ++ mN) (H ++ N.map some) w
  | [], mN, m, H, hR, hl, _, _, _ => by
    have : mN = [] := List.eq_nil_of_length_eq_zero hl
    subst this
    simpa using hR
  | b :: N, [], m, H, hR, hl, _, _, _ => by simp at hl
  | b :: N, e :: mN, m, H, hR, hl, hc, ho, hd => by
    obtain ⟨⟨h1, h2, h3, cs, fr, h4, h5, h6, h7, h8⟩, h9⟩ := hc 0 b e rfl rfl
    have h := hR.add (w' := w) (b := e.b) (cs := cs) (ty := b.ty) (fr := fr) (es := b.es) (cells := b.cells) (Nat.le_refl _) (fun _ _ _ _ _ => rfl) h9 h4 h6 h7 (fun i k e' hi hk he' => ho i 0 e' e he' rfl)
        (fun j x hx => ⟨x, h8 j x hx, .plain (List.all_eq_true.1 h3 x (List.mem_of_getElem? hx))⟩)
    have he0 : e = ⟨e.b, 0, cs.size, b.es⟩ := by cases e; simp_all
    rw [← he0] at h
    clear he0
    have := Rel.addAll N mN (m ++ [e]) (H ++ [some b]) h (by simpa using hl) (fun j b' e' hj he => hc (j + 1) b' e' (by simpa using hj) (by simpa using he)) (fun i j e1 e2 g1 g2 => by
        rcases app_one g1 with ⟨_, g1⟩ | ⟨_, g1⟩
        · exact ho i (j + 1) e1 e2 g1 (by simpa using g2)
        · exact hd 0 (j + 1) e1 e2 (by omega) (by rw [g1]; rfl) (by simpa using g2))
      (fun i j e1 e2 hne g1 g2 => hd (i + 1) (j + 1) e1 e2 (by omega) (by simpa using g1) (by simpa using g2))
    simpa using this
end
end Go.Proofs.YtjfhdckcjkgjnaaDoor
