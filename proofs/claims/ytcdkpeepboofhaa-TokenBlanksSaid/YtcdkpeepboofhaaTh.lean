/-
  What is cut, in words: tokens, blanks and remarks, one behind the other.
-/
import Derived.Test.YtcdkpeepboofhaaTg
namespace Go.Proofs.Ytcdkpeepboofhaa
open Go Go.RowKit
set_option linter.unusedVariables false
set_option linter.unusedSimpArgs false
set_option maxRecDepth 100000
set_option maxHeartbeats 4000000
def isBl (c : Int) : Prop := c = 32 ∨ c = 9 ∨ c = 10
def okN (t : Tk) (r : List Int) : Prop := ∀ c, r.head? = some c → (t.kind = 1 → isWordB c = false) ∧ (t.kind = 2 → isDigB c = false)
def TokB (w : List Int) (t : Tk) : Prop := (∃ c w', w = c :: w' ∧ ¬ isBl c ∧ c ≠ 35) ∧ ∀ r, okN t r → firstL (w ++ r) = (t, w.length, 0)
inductive Cuts : List Int → List Tk → Prop
  | nil : Cuts [] []
  | blank {c : Int} {r : List Int} {ts : List Tk} : isBl c → Cuts r ts → Cuts (c :: r) ts
  | rem {m r : List Int} {ts : List Tk} : (∀ b ∈ m, notNl b = true) → (∀ c, r.head? = some c → c = 10) → Cuts r ts → Cuts (35 :: (m ++ r)) ts
  | tok {w r : List Int} {t : Tk} {ts : List Tk} : TokB w t → okN t r → Cuts r ts → Cuts (w ++ r) (t :: ts)
theorem runL_app {f : Int → Bool} {m r : List Int} (h : ∀ b ∈ m, f b = true) (hr : ∀ c, r.head? = some c → f c = false) : runL f (m ++ r) = m.length := by
  induction m with
  | nil =>
    cases r with
    | nil => rfl
    | cons c r => exact runL_cons_f (hr c rfl)
  | cons b m ih =>
    rw [List.cons_append, runL_cons_t (h b (by simp)), ih (fun x hx => h x (by simp [hx])), List.length_cons]
theorem cutL_acc : ∀ (f a : Nat) (l : List Int) (ts : List (Tk × Nat)), (cutL f a l ts).2.2 = 0 → cutL f a l ts = (ts ++ (cutL f a l []).1, 0, 0) ∧ (cutL f a l []).2 = (0, 0)
  | 0, a, l, ts, h => by simp [cutL]
  | f + 1, a, [], ts, h => by simp [cutL]
  | f + 1, a, c :: r, ts, h => by
    rw [cutL] at h
    rw [cutL, cutL]
    split
    · rename_i h1
      rw [if_pos h1] at h
      exact cutL_acc f _ _ ts h
    · rename_i h1
      rw [if_neg h1] at h
      split
      · rename_i h2
        rw [if_pos h2] at h
        exact cutL_acc f _ _ ts h
      · rename_i h2
        rw [if_neg h2] at h
        split
        · rename_i h3
          rw [if_pos h3] at h
          exact absurd h h3
        · rename_i h3
          rw [if_neg h3] at h
          obtain ⟨e1, e2⟩ := cutL_acc f _ _ _ h
          obtain ⟨e3, e4⟩ := cutL_acc f (a + (firstL (c :: r)).2.1) ((c :: r).drop (firstL (c :: r)).2.1) ([] ++ [((firstL (c :: r)).1, a)]) (by
            have hz : ∀ (f a : Nat) (l : List Int) (ts us : List (Tk × Nat)), (cutL f a l ts).2.2 = (cutL f a l us).2.2 := by
              intro f
              induction f with
              | zero => intros; rfl
              | succ f ih =>
                intro a l ts us
                cases l with
                | nil => rfl
                | cons c r =>
                  rw [cutL, cutL]
                  split
                  · exact ih _ _ _ _
                  split
                  · exact ih _ _ _ _
                  split
                  · rfl
                  · exact ih _ _ _ _
            rw [hz _ _ _ _ (ts ++ [((firstL (c :: r)).1, a)])]
            exact h)
          rw [e1, e3]
          simp
theorem cutL_of {l : List Int} {ts : List Tk} (h : Cuts l ts) : ∀ (f a : Nat), l.length < f → ∃ us, cutL f a l [] = (us, 0, 0) ∧ us.map (·.1) = ts := by
  induction h with
  | nil =>
    intro f a hf
    obtain ⟨f, rfl⟩ : ∃ g, f = g + 1 := ⟨f - 1, by simp at hf; omega⟩
    exact ⟨[], rfl, rfl⟩
  | @blank c r ts hc _ ih =>
    intro f a hf
    obtain ⟨f, rfl⟩ : ∃ g, f = g + 1 := ⟨f - 1, by simp at hf; omega⟩
    rw [cutL, if_pos (show c = 32 ∨ c = 9 ∨ c = 10 from hc)]
    exact ih f (a + 1) (by simp at hf; omega)
  | @rem m r ts hm hr _ ih =>
    intro f a hf
    obtain ⟨f, rfl⟩ : ∃ g, f = g + 1 := ⟨f - 1, by simp at hf; omega⟩
    rw [cutL, if_neg (by omega), if_pos rfl]
    have e : runL notNl (35 :: (m ++ r)) = m.length + 1 := by
      rw [runL_cons_t rfl, runL_app hm (fun c hc => by rw [hr c hc]; rfl)]
    rw [e, List.drop_succ_cons, List.drop_left]
    exact ih f _ (by simp at hf; omega)
  | @tok w r t ts hw hok _ ih =>
    intro f a hf
    obtain ⟨f, rfl⟩ : ∃ g, f = g + 1 := ⟨f - 1, by omega⟩
    obtain ⟨⟨c, w', rfl, hb, h35⟩, hext⟩ := hw
    have hx := hext r hok
    rw [List.cons_append] at hx ⊢
    rw [cutL, if_neg (show ¬ (c = 32 ∨ c = 9 ∨ c = 10) from hb), if_neg h35, hx]
    simp only [ne_eq, not_true_eq_false, if_false]
    have hd : (c :: (w' ++ r)).drop (c :: w').length = r := by
      rw [← List.cons_append, List.drop_left]
    rw [hd]
    obtain ⟨us, e1, e2⟩ := ih f (a + (c :: w').length) (by simp at hf; omega)
    have hz := cutL_acc f (a + (c :: w').length) r ([] ++ [(t, a)]) (by
      have hz : ∀ (f a : Nat) (l : List Int) (ts us : List (Tk × Nat)), (cutL f a l ts).2.2 = (cutL f a l us).2.2 := by
        intro f
        induction f with
        | zero => intros; rfl
        | succ f ih =>
          intro a l ts us
          cases l with
          | nil => rfl
          | cons c r =>
            rw [cutL, cutL]
            split
            · exact ih _ _ _ _
            split
            · exact ih _ _ _ _
            split
            · rfl
            · exact ih _ _ _ _
      rw [hz _ _ _ _ [], e1])
    rw [hz.1, e1]
    exact ⟨_, rfl, by simp [e2]⟩
/-- A text that adds tokens to whatever follows. -/
def Adds (q : List Int) (ts : List Tk) : Prop := ∀ y us, Cuts y us → Cuts (q ++ y) (ts ++ us)
theorem Adds.nil : Adds [] [] := fun y us h => h
theorem Adds.app {q r : List Int} {ts us : List Tk} (h : Adds q ts) (k : Adds r us) : Adds (q ++ r) (ts ++ us) := fun y vs hy => by
  rw [List.append_assoc, List.append_assoc]
  exact h _ _ (k _ _ hy)
theorem Adds.cuts {q : List Int} {ts : List Tk} (h : Adds q ts) : Cuts q ts := by
  have := h [] [] .nil
  simpa using this
theorem Adds.bl {c : Int} (h : isBl c) : Adds [c] [] := fun y us hy => .blank h hy
theorem Adds.remark {m : List Int} (h : ∀ b ∈ m, notNl b = true) : Adds (35 :: (m ++ [10])) [] := fun y us hy => by
  have : Cuts (35 :: (m ++ (10 :: y))) us := .rem h (fun c hc => by simpa using hc.symm) (.blank (.inr (.inr rfl)) hy)
  simpa using this
/-- Blanks and remarks, closed by a new line. -/
def Skp (b : List Int) : Prop := ∀ y ts, Cuts (10 :: y) ts → Cuts (b ++ 10 :: y) ts
theorem Skp.nil : Skp [] := fun y ts h => h
theorem Skp.blank {c : Int} {b : List Int} (hc : isBl c) (h : Skp b) : Skp (c :: b) := fun y ts hy => .blank hc (h y ts hy)
theorem Skp.rem {m b : List Int} (hm : ∀ x ∈ m, notNl x = true) (hb : ∀ c, b.head? = some c → c = 10) (h : Skp b) : Skp (35 :: (m ++ b)) := fun y ts hy => by
  have : Cuts (35 :: (m ++ (b ++ 10 :: y))) ts := .rem hm (fun c hc => by
    cases b with
    | nil => simpa using hc.symm
    | cons x b => exact hb c (by simpa using hc)) (h y ts hy)
  simpa using this
theorem okN.app {t : Tk} {b y : List Int} (h : okN t b) : okN t (b ++ 10 :: y) := by
  cases b with
  | nil =>
    intro c hc
    obtain rfl : 10 = c := by simpa using hc
    exact ⟨fun _ => rfl, fun _ => rfl⟩
  | cons x b =>
    intro c hc
    exact h c (by simpa using hc)
theorem Adds.piece {w b : List Int} {t : Tk} (hw : TokB w t) (hb : Skp b) (ho : okN t b) : Adds (w ++ b ++ [10]) [t] := fun y us hy => by
  have h1 : Cuts (b ++ 10 :: y) us := hb y us (.blank (.inr (.inr rfl)) hy)
  have h2 : Cuts (w ++ (b ++ 10 :: y)) (t :: us) := .tok hw ho.app h1
  simpa using h2
theorem Adds.word {w : List Int} {t : Tk} (hw : TokB w t) : Adds (w ++ [32]) [t] := fun y us hy => by
  have h2 : Cuts (w ++ (32 :: y)) (t :: us) := .tok hw (fun c hc => by
    obtain rfl : 32 = c := by simpa using hc
    exact ⟨fun _ => rfl, fun _ => rfl⟩) (.blank (.inl rfl) hy)
  simpa using h2
/-- The tokens, each with its piece of the text behind it. -/
inductive Pcs : Nat → List Int → List (Tk × Nat) → Prop
  | nil {a : Nat} : Pcs a [] []
  | cons {a : Nat} {w b r : List Int} {t : Tk} {us : List (Tk × Nat)} : TokB w t → okN t b → Skp b → Pcs (a + w.length + b.length) r us → Pcs a (w ++ (b ++ r)) ((t, a) :: us)
theorem pcs_at : ∀ {a : Nat} {l : List Int} {us : List (Tk × Nat)}, Pcs a l us → ∀ {i : Nat} {t : Tk} {p : Nat}, us[i]? = some (t, p) →
    ∃ w b, TokB w t ∧ okN t b ∧ Skp b ∧ a ≤ p ∧ p + (w ++ b).length ≤ a + l.length ∧ (l.drop (p - a)).take (w ++ b).length = w ++ b ∧ (∀ u q, us[i + 1]? = some (u, q) → q = p + (w ++ b).length) ∧ (us[i + 1]? = none → p + (w ++ b).length = a + l.length) := by
  intro a l us h
  induction h with
  | nil => intro i t p hi; simp at hi
  | @cons a w b r t us hw ho hb hp ih =>
    intro i t' p hi
    cases i with
    | zero =>
      simp only [List.getElem?_cons_zero, Option.some.injEq, Prod.mk.injEq] at hi
      obtain ⟨rfl, rfl⟩ := hi
      refine ⟨w, b, hw, ho, hb, Nat.le_refl _, by simp only [List.length_append]; omega, ?_, fun u q hq => ?_, fun hn => ?_⟩
      · rw [Nat.sub_self, List.drop_zero, ← List.append_assoc, List.take_left]
      · simp only [List.getElem?_cons_succ] at hq
        cases hp with
        | nil => simp at hq
        | cons _ _ _ _ =>
          simp only [List.getElem?_cons_zero, Option.some.injEq, Prod.mk.injEq] at hq
          rw [← hq.2, List.length_append]; omega
      · simp only [List.getElem?_cons_succ] at hn
        cases hp with
        | nil => simp [List.length_append]
        | cons _ _ _ _ => simp at hn
    | succ i =>
      simp only [List.getElem?_cons_succ] at hi
      obtain ⟨w2, b2, g1, g2, g3, g4, g5, g6, g7, g8⟩ := ih hi
      refine ⟨w2, b2, g1, g2, g3, by omega, by simp only [List.length_append] at g5 ⊢; omega, ?_, fun u q hq => g7 u q (by simpa using hq), fun hn => ?_⟩
      · have : p - a = (w ++ b).length + (p - (a + w.length + b.length)) := by rw [List.length_append]; omega
        rw [this, ← List.append_assoc, ← List.drop_drop, List.drop_left]
        exact g6
      · have := g8 (by simpa using hn)
        simp only [List.length_append] at this ⊢; omega
end Go.Proofs.Ytcdkpeepboofhaa
