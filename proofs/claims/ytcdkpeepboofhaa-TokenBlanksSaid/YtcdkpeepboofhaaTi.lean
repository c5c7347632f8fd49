/-
  Words that are tokens; what is cut, piece by piece; what is written is a word of that token.
-/
import Derived.Test.YtcdkpeepboofhaaTh
namespace Go.Proofs.Ytcdkpeepboofhaa
open Go Go.RowKit
set_option linter.unusedVariables false
set_option linter.unusedSimpArgs false
set_option maxRecDepth 100000
set_option maxHeartbeats 4000000
theorem runL_head {f : Int → Bool} {l : List Int} : ∀ c, (l.drop (runL f l)).head? = some c → f c = false := by
  induction l with
  | nil => intro c hc; simp [runL] at hc
  | cons x l ih =>
    intro c hc
    cases h : f x with
    | true =>
      rw [runL_cons_t h, List.drop_succ_cons] at hc
      exact ih c hc
    | false =>
      rw [runL_cons_f h] at hc
      obtain rfl : x = c := by simpa using hc
      exact h
theorem let_bd {c : Int} (h : isLetB c = true) : 97 ≤ c ∧ c ≤ 122 := by simpa [isLetB] using h
theorem dig_bd {c : Int} (h : isDigB c = true) : 48 ≤ c ∧ c ≤ 57 := by simpa [isDigB] using h
theorem word_bd {c : Int} (h : isWordB c = true) : 48 ≤ c ∧ c ≤ 122 := by
  unfold isWordB at h
  rcases Bool.or_eq_true_iff.1 h with h | h
  · have := let_bd h; omega
  · have := dig_bd h; omega
theorem dig_let {c : Int} (h : isDigB c = true) : isLetB c = false := by
  have := dig_bd h
  simp [isLetB]; omega
theorem sign_ok : ∀ c ∈ signL, isLetB c = false ∧ isDigB c = false ∧ c ≠ 34 ∧ c ≠ 32 ∧ c ≠ 9 ∧ c ≠ 10 ∧ c ≠ 35 ∧ 0 ≤ c ∧ c ≤ 255 := by decide +kernel
theorem sign_mem {c : Int} (h : isSign c = true) : c ∈ signL := by simpa [isSign] using h
theorem name_tok {c : Int} {w : List Int} (hc : isLetB c = true) (hall : ∀ x ∈ c :: w, isWordB x = true) (hl : (c :: w).length ≤ 12) : TokB (c :: w) ⟨1, 0, c :: w⟩ := by
  have hb := let_bd hc
  refine ⟨⟨c, w, rfl, by unfold isBl; omega, by omega⟩, fun r hr => ?_⟩
  have hrun : runL isWordB ((c :: w) ++ r) = (c :: w).length := runL_app hall (fun x hx => (hr x hx).1 rfl)
  have h0 : ((c :: w) ++ r).getD 0 0 = c := rfl
  unfold firstL
  rw [h0, if_pos hc]
  unfold nameL
  rw [hrun, if_neg (by omega), List.take_left]
theorem num_tok {c : Int} {w : List Int} {v : Int} (hall : ∀ x ∈ c :: w, isDigB x = true) (hz : ¬ (c = 48 ∧ 1 < (c :: w).length)) (hv : numV 0 (c :: w) = some v) : TokB (c :: w) ⟨2, v, []⟩ := by
  have hc := hall c (by simp)
  have hb := dig_bd hc
  refine ⟨⟨c, w, rfl, by unfold isBl; omega, by omega⟩, fun r hr => ?_⟩
  have hrun : runL isDigB ((c :: w) ++ r) = (c :: w).length := runL_app hall (fun x hx => (hr x hx).2 rfl)
  have h0 : ((c :: w) ++ r).getD 0 0 = c := rfl
  unfold firstL
  rw [h0, if_neg (by rw [dig_let hc]; simp), if_pos hc]
  unfold numberL
  rw [hrun, h0, if_neg hz, List.take_left, hv]
theorem sign_tok {c : Int} (h : isSign c = true) : TokB [c] ⟨4, 0, [c]⟩ := by
  obtain ⟨h1, h2, h3, h4, h5, h6, h7, _⟩ := sign_ok c (sign_mem h)
  refine ⟨⟨c, [], rfl, by unfold isBl; omega, h7⟩, fun r hr => ?_⟩
  have h0 : ([c] ++ r).getD 0 0 = c := rfl
  unfold firstL
  rw [h0, if_neg (by rw [h1]; simp), if_neg (by rw [h2]; simp), if_neg h3, if_pos h]
  rfl
/-- Bytes that stand for one letter of a text. -/
def LetB (p : List Int) (x : Int) : Prop := (∃ c p', p = c :: p' ∧ c ≠ 34) ∧ ∀ y, letterL (p ++ y) = (x, p.length, 0)
def TextB (body x : List Int) : Prop := ∀ f r b a, body.length < f → (b ++ x).length ≤ 64 → txL f (body ++ 34 :: r) b a = (⟨3, 0, b ++ x⟩, a + body.length + 1, 0)
theorem TextB.nil : TextB [] [] := fun f r b a hf hl => by
  obtain ⟨f, rfl⟩ : ∃ g, f = g + 1 := ⟨f - 1, by simp at hf; omega⟩
  rw [List.append_nil] at hl
  rw [List.nil_append, txL, if_pos rfl, if_neg (by omega)]
  simp
theorem TextB.cons {p body xs : List Int} {x : Int} (hp : LetB p x) (h : TextB body xs) : TextB (p ++ body) (x :: xs) := fun f r b a hf hl => by
  obtain ⟨⟨c, p', rfl, hc⟩, hext⟩ := hp
  obtain ⟨f, rfl⟩ : ∃ g, f = g + 1 := ⟨f - 1, by omega⟩
  have hx := hext (body ++ 34 :: r)
  rw [List.append_assoc, List.cons_append, txL, if_neg hc, ← List.cons_append, hx]
  simp only [ne_eq, not_true_eq_false, if_false]
  rw [List.drop_left, h f r (b ++ [x]) (a + (c :: p').length) (by simp at hf; omega) (by simpa using hl)]
  simp only [List.append_assoc, List.cons_append, List.nil_append, List.length_append, List.length_cons]
  congr 2
  omega
theorem text_tok {body x : List Int} (h : TextB body x) (hl : x.length ≤ 64) : TokB (34 :: (body ++ [34])) ⟨3, 0, x⟩ := by
  refine ⟨⟨34, _, rfl, by unfold isBl; omega, by omega⟩, fun r hr => ?_⟩
  have h0 : ((34 :: (body ++ [34])) ++ r).getD 0 0 = 34 := rfl
  unfold firstL
  rw [h0, if_neg (by decide), if_neg (by decide), if_pos rfl]
  unfold textT
  have e : (34 :: (body ++ [34]) ++ r).drop 1 = body ++ 34 :: r := by simp
  rw [e, h _ _ _ _ (by simp; omega) (by simpa using hl)]
  simp
  omega
theorem letB_of {c : Int} {r : List Int} {x : Int} {n : Nat} (hc : c ≠ 34) (h : letterL (c :: r) = (x, n, 0)) : ∃ p q, c :: r = p ++ q ∧ p.length = n ∧ LetB p x := by
  simp only [letterL] at h
  split at h
  · simp at h
  rename_i h1
  split at h
  · rename_i h2
    simp only [Prod.mk.injEq] at h
    obtain ⟨rfl, rfl, _⟩ := h
    refine ⟨[c], r, rfl, rfl, ⟨c, [], rfl, hc⟩, fun y => ?_⟩
    simp only [List.cons_append, List.nil_append, letterL]
    rw [if_neg h1, if_pos h2]
    rfl
  rename_i h2
  cases r with
  | nil => simp at h
  | cons d r2 =>
    simp only at h
    split at h
    · rename_i h3
      simp only [Prod.mk.injEq] at h
      obtain ⟨rfl, rfl, _⟩ := h
      refine ⟨[c, d], r2, rfl, rfl, ⟨c, [d], rfl, hc⟩, fun y => ?_⟩
      simp only [List.cons_append, List.nil_append, letterL]
      rw [if_neg h1, if_neg h2, if_pos h3]
      rfl
    rename_i h3
    split at h
    · rename_i h4
      match r2, h with
      | [], h => simp [hexL] at h
      | [u], h =>
        simp only [hexL] at h
        split at h <;> simp at h
      | u :: v :: r3, h =>
        simp only [hexL] at h
        split at h
        · simp at h
        rename_i h5
        simp only [Prod.mk.injEq] at h
        obtain ⟨rfl, rfl, _⟩ := h
        refine ⟨[c, d, u, v], r3, rfl, rfl, ⟨c, _, rfl, hc⟩, fun y => ?_⟩
        simp only [List.cons_append, List.nil_append, letterL]
        rw [if_neg h1, if_neg h2, if_neg h3, if_pos h4]
        simp only [hexL]
        rw [if_neg h5]
        rfl
    · simp at h
theorem textB_of : ∀ (f : Nat) (l b : List Int) (a m : Nat) (t : Tk), By l → txL f l b a = (t, m, 0) → ∃ body x r, l = body ++ 34 :: r ∧ TextB body x ∧ t = ⟨3, 0, b ++ x⟩ ∧ m = a + body.length + 1 ∧ (b ++ x).length ≤ 64 ∧ By x
  | 0, l, b, a, m, t, _, h => by simp [txL] at h
  | f + 1, [], b, a, m, t, _, h => by simp [txL] at h
  | f + 1, c :: r, b, a, m, t, hb, h => by
    rw [txL] at h
    by_cases h1 : c = 34
    · rw [if_pos h1] at h
      by_cases h2 : 64 < b.length
      · rw [if_pos h2] at h; simp at h
      · rw [if_neg h2] at h
        simp only [Prod.mk.injEq] at h
        obtain ⟨rfl, rfl, _⟩ := h
        exact ⟨[], [], r, by simp [h1], .nil, by simp, by simp, by simp; omega, .nil⟩
    · rw [if_neg h1] at h
      by_cases h2 : (letterL (c :: r)).2.2 = 0
      · rw [if_neg (by simpa using h2)] at h
        have hbd := letterL_bd hb
        obtain ⟨p, q, hpq, hpl, hLB⟩ := letB_of (x := (letterL (c :: r)).1) (n := (letterL (c :: r)).2.1) h1 (by rw [← h2])
        rw [← hpl, hpq, List.drop_left, ← hpq, hpl] at h
        have hbq : By q := by rw [hpq] at hb; exact hb.app_r
        obtain ⟨body, x, r', hq, hT, rfl, rfl, hl, hx⟩ := textB_of f q _ _ m t hbq h
        refine ⟨p ++ body, (letterL (c :: r)).1 :: x, r', by rw [hpq, hq, List.append_assoc], .cons hLB hT, by simp, by rw [List.length_append, hpl]; omega, by simpa using hl, ?_⟩
        exact By.cons (hbd.1 _ (by simp)) hx
      · rw [if_pos h2] at h
        simp only [Prod.mk.injEq] at h
        exact absurd h.2.2 h2
/-- Tokens that can be cut. -/
def ValidT (t : Tk) : Prop :=
  (∃ c w, t = ⟨1, 0, c :: w⟩ ∧ isLetB c = true ∧ (∀ x ∈ c :: w, isWordB x = true) ∧ (c :: w).length ≤ 12) ∨ (∃ v, t = ⟨2, v, []⟩ ∧ 0 ≤ v ∧ v ≤ 999999999) ∨ (∃ x, t = ⟨3, 0, x⟩ ∧ By x ∧ x.length ≤ 64) ∨ ∃ c, t = ⟨4, 0, [c]⟩ ∧ isSign c = true
theorem tok_of {l : List Int} {t : Tk} {n : Nat} (hb : By l) (hne : l ≠ []) (h : firstL l = (t, n, 0)) : ∃ w r, l = w ++ r ∧ w.length = n ∧ TokB w t ∧ okN t r ∧ ValidT t := by
  cases l with
  | nil => exact absurd rfl hne
  | cons c r0 =>
    have hc0 : (c :: r0).getD 0 0 = c := rfl
    unfold firstL at h
    rw [hc0] at h
    by_cases h1 : isLetB c = true
    · rw [if_pos h1] at h
      unfold nameL at h
      have hw : isWordB c = true := by simp [isWordB, h1]
      have hall := runL_all (f := isWordB) (l := c :: r0)
      have hhd := runL_head (f := isWordB) (l := c :: r0)
      have hle := runL_le isWordB (c :: r0)
      have hn1 := runL_cons_t (l := r0) hw
      generalize runL isWordB (c :: r0) = k at h hall hhd hle hn1
      split at h
      · simp at h
      rename_i h12
      simp only [Prod.mk.injEq] at h
      obtain ⟨rfl, rfl, _⟩ := h
      have htk : (c :: r0).take k = c :: r0.take (runL isWordB r0) := by rw [hn1, List.take_succ_cons]
      have hlen : ((c :: r0).take k).length = k := by rw [List.length_take]; omega
      rw [htk] at hall hlen ⊢
      refine ⟨_, (c :: r0).drop k, ?_, hlen, name_tok h1 hall (by omega), fun x hx => ⟨fun _ => hhd x hx, fun e => absurd e (by simp)⟩, .inl ⟨_, _, rfl, h1, hall, by omega⟩⟩
      rw [← htk, List.take_append_drop]
    rw [if_neg h1] at h
    by_cases h2 : isDigB c = true
    · rw [if_pos h2] at h
      unfold numberL at h
      rw [hc0] at h
      have hall := runL_all (f := isDigB) (l := c :: r0)
      have hhd := runL_head (f := isDigB) (l := c :: r0)
      have hle := runL_le isDigB (c :: r0)
      have hn1 := runL_cons_t (l := r0) h2
      generalize runL isDigB (c :: r0) = k at h hall hhd hle hn1
      split at h
      · simp at h
      rename_i hz
      cases hv : numV 0 ((c :: r0).take k) with
      | none => rw [hv] at h; simp at h
      | some v =>
        rw [hv] at h
        simp only [Prod.mk.injEq] at h
        obtain ⟨rfl, rfl, _⟩ := h
        have htk : (c :: r0).take k = c :: r0.take (runL isDigB r0) := by rw [hn1, List.take_succ_cons]
        have hlen : ((c :: r0).take k).length = k := by rw [List.length_take]; omega
        have hvb := numV_bd (by omega) (by omega) (fun x hx => (dig_bd (hall x hx)).1) hv
        rw [htk] at hall hlen hv
        refine ⟨_, (c :: r0).drop k, ?_, hlen, num_tok hall (by rw [hlen]; exact hz) hv, fun x hx => ⟨fun e => absurd e (by simp), fun _ => hhd x hx⟩, .inr (.inl ⟨_, rfl, hvb⟩)⟩
        rw [← htk, List.take_append_drop]
    rw [if_neg h2] at h
    by_cases h3 : c = 34
    · rw [if_pos h3] at h
      unfold textT at h
      obtain ⟨body, x, r, hl, hT, rfl, rfl, hx, hxb⟩ := textB_of _ _ _ _ _ _ (hb.drop 1) h
      have hl : r0 = body ++ 34 :: r := hl
      rw [List.nil_append] at hx ⊢
      refine ⟨34 :: (body ++ [34]), r, by rw [h3, hl]; simp, by simp; omega, text_tok hT hx, fun y hy => ⟨fun e => absurd e (by simp), fun e => absurd e (by simp)⟩, .inr (.inr (.inl ⟨_, rfl, hxb, hx⟩))⟩
    rw [if_neg h3] at h
    by_cases h4 : isSign c = true
    · rw [if_pos h4] at h
      simp only [Prod.mk.injEq] at h
      obtain ⟨rfl, rfl, _⟩ := h
      exact ⟨[c], r0, rfl, rfl, sign_tok h4, fun y hy => ⟨fun e => absurd e (by simp), fun e => absurd e (by simp)⟩, .inr (.inr (.inr ⟨_, rfl, h4⟩))⟩
    · rw [if_neg h4] at h
      simp at h
theorem pcs_of : ∀ (f a : Nat) (l : List Int) (us : List (Tk × Nat)), By l → l.length < f → cutL f a l [] = (us, 0, 0) → ∃ b r, l = b ++ r ∧ Skp b ∧ Pcs (a + b.length) r us ∧ ∀ p ∈ us, ValidT p.1
  | 0, a, l, us, _, hf, h => by omega
  | f + 1, a, [], us, _, hf, h => by
    rw [cutL] at h
    simp only [Prod.mk.injEq] at h
    obtain ⟨rfl, _⟩ := h
    exact ⟨[], [], rfl, .nil, .nil, by simp⟩
  | f + 1, a, c :: r0, us, hb, hf, h => by
    have hb0 : By r0 := fun x hx => hb x (by simp [hx])
    rw [cutL] at h
    split at h
    · rename_i h1
      obtain ⟨b, r, rfl, h2, h3, h4⟩ := pcs_of f (a + 1) r0 us hb0 (by simp at hf; omega) h
      exact ⟨c :: b, r, rfl, .blank h1 h2, by rw [List.length_cons]; rwa [show a + (b.length + 1) = a + 1 + b.length by omega], h4⟩
    rename_i h1
    split at h
    · rename_i h2
      subst h2
      have hall := runL_all (f := notNl) (l := 35 :: r0)
      have hhd := runL_head (f := notNl) (l := 35 :: r0)
      have hle := runL_le notNl (35 :: r0)
      have hn1 : runL notNl (35 :: r0) = runL notNl r0 + 1 := runL_cons_t rfl
      rw [hn1] at h hall hhd hle
      rw [List.drop_succ_cons] at h hhd
      generalize runL notNl r0 = k at h hall hhd hle
      obtain ⟨b, r, hbr, h2, h3, h4⟩ := pcs_of f _ (r0.drop k) us (hb0.drop k) (by rw [List.length_drop]; simp at hf; omega) h
      have hk : (r0.take k).length = k := by rw [List.length_take]; simp at hle; omega
      refine ⟨35 :: (r0.take k ++ b), r, ?_, .rem (fun x hx => hall x (by simp [hx])) (fun x hx => ?_) h2, ?_, h4⟩
      · rw [List.cons_append, List.append_assoc, ← hbr, List.take_append_drop]
      · have := hhd x (by rw [hbr, List.head?_append, hx]; rfl)
        simpa [notNl] using this
      · rw [List.length_cons, List.length_append, hk]
        rwa [show a + (k + b.length + 1) = a + (k + 1) + b.length by omega]
    rename_i h2
    split at h
    · rename_i h3
      simp only [Prod.mk.injEq] at h
      exact absurd h.2.2 h3
    rename_i h3
    have h3 : (firstL (c :: r0)).2.2 = 0 := by simpa using h3
    obtain ⟨w, r, hl, hwl, hT, ho, hV⟩ := tok_of (t := (firstL (c :: r0)).1) (n := (firstL (c :: r0)).2.1) hb (by simp) (by rw [← h3])
    have hacc := cutL_acc _ _ _ _ (by rw [h])
    rw [h] at hacc
    have hwpos : 0 < w.length := by obtain ⟨⟨x, w', rfl, _⟩, _⟩ := hT; simp
    have hrl : w.length + r.length = (c :: r0).length := by rw [hl, List.length_append]
    have hd : (c :: r0).drop (firstL (c :: r0)).2.1 = r := by rw [← hwl, hl, List.drop_left]
    rw [hd] at hacc
    obtain ⟨hu, hz⟩ := hacc
    obtain ⟨b, r', hbr, g2, g3, g4⟩ := pcs_of f (a + (firstL (c :: r0)).2.1) r (cutL f (a + (firstL (c :: r0)).2.1) r []).1 (by rw [hl] at hb; exact hb.app_r) (by simp only [List.length_cons] at hf hrl; omega) (by rw [← hz])
    simp only [Prod.mk.injEq] at hu
    obtain ⟨rfl, _⟩ := hu
    refine ⟨[], w ++ (b ++ r'), by rw [hl, hbr]; rfl, .nil, ?_, ?_⟩
    · rw [← hwl] at g3 ⊢
      exact .cons hT (fun x hx => ho x (by rw [hbr, List.head?_append, hx]; rfl)) g2 g3
    · intro p hp
      simp only [List.nil_append, List.cons_append, List.mem_cons] at hp
      rcases hp with rfl | hp
      · exact hV
      · exact g4 p hp
theorem hexI_C : ∀ n : Nat, n < 16 → hexI (hexC n) = n ∧ 0 ≤ hexC n := by decide +kernel
theorem escB_let {c : Int} (hc : 0 ≤ c ∧ c ≤ 255) : LetB (escB c) c := by
  unfold escB
  split
  · rename_i h
    refine ⟨⟨92, [c], rfl, by omega⟩, fun y => ?_⟩
    simp only [List.cons_append, List.nil_append, letterL]
    rw [if_neg (by omega), if_neg (by simp), if_pos h]
    rfl
  rename_i h
  split
  · rename_i h2
    refine ⟨⟨c, [], rfl, by omega⟩, fun y => ?_⟩
    simp only [List.cons_append, List.nil_append, letterL]
    rw [if_neg (by omega), if_pos (by omega)]
    rfl
  · rename_i h2
    obtain ⟨q, hq⟩ : ∃ q : Nat, c / 16 = (q : Int) := ⟨(c / 16).toNat, by omega⟩
    obtain ⟨r, hr⟩ : ∃ r : Nat, c % 16 = (r : Int) := ⟨(c % 16).toNat, by omega⟩
    have h1 := (hexI_C q (by omega)).1
    have h3 := (hexI_C r (by omega)).1
    refine ⟨⟨92, _, rfl, by omega⟩, fun y => ?_⟩
    simp only [List.cons_append, List.nil_append, letterL]
    rw [if_neg (by omega), if_neg (by simp), if_neg (by omega), if_pos trivial]
    simp only [hexL]
    rw [hq, hr, h1, h3, if_neg (by omega)]
    simp only [List.length_cons, List.length_nil]
    congr 1
    omega
theorem escL_text : ∀ {l : List Int}, By l → TextB (escL l) l
  | [], _ => .nil
  | c :: l, h => by
    have : escL (c :: l) = escB c ++ escL l := rfl
    rw [this]
    exact .cons (escB_let (h c (by simp))) (escL_text fun x hx => h x (by simp [hx]))
theorem numV_snoc : ∀ (l : List Int) (v c : Int), numV v (l ++ [c]) = (numV v l).bind fun u => if 999999999 < 10 * u + (c - 48) then none else some (10 * u + (c - 48))
  | [], v, c => by simp [numV]
  | x :: l, v, c => by
    rw [List.cons_append, numV, numV]
    split
    · rfl
    · exact numV_snoc l _ c
theorem numV_dig : ∀ (f n : Nat), n < 10 ^ (f + 1) → n ≤ 999999999 → numV 0 (digF f n) = some (n : Int)
  | 0, n, h, h9 => by
    have h : n < 10 := by simpa using h
    rw [digF, numV, numV, if_neg (by omega)]
    congr 1; omega
  | f + 1, n, h, h9 => by
    rw [digF]
    split
    · rw [numV, numV, if_neg (by omega)]
      congr 1; omega
    · rw [numV_snoc, numV_dig f (n / 10) (by rw [Nat.pow_succ] at h; omega) (by omega)]
      simp only [Option.bind_some]
      rw [if_neg (by omega)]
      congr 1; omega
theorem digF_lead : ∀ (f n : Nat), 1 ≤ n → n < 10 ^ (f + 1) → ∃ c w, digF f n = c :: w ∧ c ≠ 48
  | 0, n, h1, h => ⟨_, _, rfl, by omega⟩
  | f + 1, n, h1, h => by
    rw [digF]
    split
    · exact ⟨_, _, rfl, by omega⟩
    · obtain ⟨c, w, e, hc⟩ := digF_lead f (n / 10) (by omega) (by rw [Nat.pow_succ] at h; omega)
      rw [e]
      exact ⟨c, _, rfl, hc⟩
theorem write_tok {t : Tk} (h : ValidT t) : TokB (writeT t) t := by
  rcases h with ⟨c, w, rfl, h1, h2, h3⟩ | ⟨v, rfl, h1, h2⟩ | ⟨x, rfl, h1, h2⟩ | ⟨c, rfl, h1⟩
  · exact name_tok h1 h2 h3
  · obtain ⟨n, rfl⟩ := Int.eq_ofNat_of_zero_le h1
    have hn : n < 10 ^ 9 := by have : n < 1000000000 := by omega
                               simpa using this
    have hv := numV_dig 8 n hn (by omega)
    have hd := digF_dig 8 n hn
    have e : writeT ⟨2, (n : Int), []⟩ = digF 8 n := by simp [writeT]
    rw [e]
    have hall : ∀ x ∈ digF 8 n, isDigB x = true := fun x hx => by simpa [isDigB] using hd x hx
    by_cases h0 : 1 ≤ n
    · obtain ⟨c, w, hcw, hc⟩ := digF_lead 8 n h0 hn
      rw [hcw] at hv hall ⊢
      exact num_tok hall (fun hz => hc hz.1) hv
    · obtain rfl : n = 0 := by omega
      have e0 : digF 8 0 = [48] := rfl
      rw [e0] at hv hall ⊢
      exact num_tok hall (by simp) hv
  · exact text_tok (escL_text h1) h2
  · exact sign_tok h1
theorem valid_ok {t : Tk} (h : ValidT t) : (1 ≤ t.kind ∧ t.kind ≤ 4) ∧ (0 ≤ t.n ∧ t.n ≤ 999999999) ∧ By t.tx ∧ t.tx.length ≤ 64 := by
  rcases h with ⟨c, w, rfl, h1, h2, h3⟩ | ⟨v, rfl, h1, h2⟩ | ⟨x, rfl, h1, h2⟩ | ⟨c, rfl, h1⟩
  · exact ⟨by simp, by simp, fun x hx => by have := word_bd (h2 x hx); omega, by simp only; omega⟩
  · exact ⟨by simp, ⟨h1, h2⟩, .nil, by simp⟩
  · exact ⟨by simp, by simp, h1, h2⟩
  · have := sign_ok c (sign_mem h1)
    exact ⟨by simp, by simp, .cons (by omega) .nil, by simp⟩
theorem writeT_by {t : Tk} (h : ValidT t) : By (writeT t) ∧ (writeT t).length ≤ 260 := by
  have hv := valid_ok h
  unfold writeT
  split
  · have hn : t.n.toNat < 10 ^ 9 := by have : t.n.toNat < 1000000000 := by omega
                                       simpa using this
    exact ⟨digF_by hn, by have := digF_len 8 t.n.toNat; omega⟩
  split
  · exact ⟨hv.2.2.1, by omega⟩
  · have hl := escL_len t.tx
    refine ⟨.cons (by omega) (By.app (fun y hy => ?_) (.cons (by omega) .nil)), by simp; omega⟩
    obtain ⟨c, hc, hy⟩ := List.mem_flatMap.1 hy
    have hcb := hv.2.2.1 c hc
    unfold escB at hy
    split at hy
    · simp at hy; omega
    split at hy
    · simp at hy; omega
    · have : ∀ z : Int, 0 ≤ z ∧ z < 16 → 0 ≤ hexC z ∧ hexC z ≤ 102 := fun z hz => by unfold hexC; split <;> omega
      have a1 := this (c / 16) (by omega)
      have a2 := this (c % 16) (by omega)
      simp at hy
      omega
end Go.Proofs.Ytcdkpeepboofhaa
