/-
  What follows, told by lists: the search step by step; it is the least that is closed.
-/
import Derived.Test.YtlaglpnbmkoakaaDoorFfD
import Derived.Test.YtlaglpnbmkoakaaDoorFfC
namespace Go.Proofs.YtlaglpnbmkoakaaDoor
open Go Go.RowKit
set_option linter.unusedSimpArgs false
set_option linter.unusedVariables false
set_option maxRecDepth 100000
set_option maxHeartbeats 8000000
section
def pk (k : List Int) : Option Nat := if nmL (plN k) = k then some (plN k).toNat else none
theorem pl_nm0 (n : Int) : 0 ≤ plN (nmL n) := by
 show 0 ≤ n / 16777216 % 256 * 16777216 + n / 65536 % 256 * 65536 + n / 256 % 256 * 256 + n % 256
 omega
theorem pk_nm {i : Nat} (h : i < 4294967296) : pk (nmL i) = some i := by
 unfold pk
 rw [plN_nm (by omega)]
 simp
theorem pk_some {k : List Int} {p : Nat} (h : pk k = some p) : nmL p = k := by
 unfold pk at h
 by_cases e : nmL (plN k) = k
 ·rw [if_pos e] at h
  cases h
  have h0 : 0 ≤ plN k := by rw [← e]; exact pl_nm0 _
  rw [Int.toNat_of_nonneg h0]
  exact e
 ·rw [if_neg e] at h
  cases h
def kw (kn : List Bool) (p : Nat) : Bool := kn.getD p false
def fol (kn : List Bool) (k : List Int) : Bool := match pk k with | none => true | some p => kw kn p
abbrev FSt := List Bool × List Nat
def lrn (s : FSt) (k : List Int) : FSt := match pk k with | none => s | some p => if p < s.1.length ∧ kw s.1 p = false then (s.1.set p true, s.2 ++ [p]) else s
def trm (T : List TermD) (i : Nat) : TermD := T.getD i ⟨0, ⟨#[]⟩, []⟩
def k0 (x : TermD) : List Int := x.keys.getD 0 []
def k1 (x : TermD) : List Int := x.keys.getD 1 []
def pubK (T : List TermD) (kn : List Bool) (k : List Int) : Bool := match placeT ⟨3, ⟨#[]⟩, [k]⟩ T with | none => false | some p => kw kn p
def agrS (T : List TermD) (kn : List Bool) (a b : List Int) : Bool := fol kn a && (fol kn b || pubK T kn b)
def mks (T : List TermD) (kn : List Bool) (x : TermD) : Bool :=
 if x.kind = 2 ∨ x.kind = 3 ∨ x.kind = 5 ∨ x.kind = 6 then x.keys.all (fol kn)
 else if x.kind = 4 then agrS T kn (k0 x) (k1 x) || agrS T kn (k1 x) (k0 x) else false
def tryS (T : List TermD) (s : FSt) (i : Nat) : FSt := if kw s.1 i = false ∧ mks T s.1 (trm T i) = true then lrn s (nmL i) else s
def opnS (T : List TermD) (s : FSt) (i : Nat) : FSt := if (trm T i).kind = 6 ∧ kw s.1 i = true ∧ fol s.1 (k0 (trm T i)) = true then ((trm T i).keys.drop 2).foldl lrn s else s
def usersF (k : List Int) : Nat → List TermD → List Nat
 | _, [] => []
 | n, x :: T => (x.keys.filter (· = k)).map (fun _ => n) ++ usersF k (n + 1) T
def useS (T : List TermD) (s : FSt) (i : Nat) : FSt :=
 let s2 := (usersF (nmL i) 0 T).foldl (fun s u => opnS T (tryS T s u) u) (opnS T s i)
 if (trm T i).kind = 3 then (usersF (k0 (trm T i)) 0 T).foldl (tryS T) s2 else s2
def runS (T : List TermD) : Nat → FSt → FSt
 | 0, s => s
 | f + 1, s => match s.2.getLast? with | none => s | some i => runS T f (useS T (s.1, s.2.dropLast) i)
def seedS (n : Nat) (seen : List (List Int)) : FSt := seen.foldl lrn (List.replicate n false, [])
def passS (T : List TermD) (seen : List (List Int)) : FSt := (List.range T.length).foldl (tryS T) (seedS T.length seen)
def folL (T : List TermD) (seen : List (List Int)) : List Bool := (runS T T.length (passS T seen)).1
def muF (s : FSt) : Nat := s.1.count false + s.2.length
structure FExt (s t : FSt) : Prop where
 len : t.1.length = s.1.length
 le : ∀ p, kw s.1 p = true → kw t.1 p = true
 new : ∃ L, t.2 = s.2 ++ L ∧ (∀ p, kw t.1 p = true → kw s.1 p = true ∨ p ∈ L) ∧ (∀ p ∈ L, kw t.1 p = true ∧ p < s.1.length)
 mu : muF t = muF s
theorem FExt.refl (s : FSt) : FExt s s := ⟨rfl, fun _ h => h, ⟨[], by simp, fun p h => .inl h, by simp⟩, rfl⟩
theorem FExt.trans {s t u : FSt} (h : FExt s t) (g : FExt t u) : FExt s u := by
 obtain ⟨L, e, f, a⟩ := h.new
 obtain ⟨M, e2, f2, a2⟩ := g.new
 refine ⟨g.len.trans h.len, fun p hp => g.le p (h.le p hp), ⟨L ++ M, by rw [e2, e, List.append_assoc], fun p hp => ?_, fun p hp => ?_⟩, g.mu.trans h.mu⟩
 ·rcases f2 p hp with h1 | h1
  ·rcases f p h1 with h2 | h2
   ·exact .inl h2
   ·exact .inr (by simp [h2])
  ·exact .inr (by simp [h1])
 ·rcases List.mem_append.1 hp with h1 | h1
  ·exact ⟨g.le p (a p h1).1, (a p h1).2⟩
  ·exact ⟨(a2 p h1).1, by have := (a2 p h1).2; rw [h.len] at this; exact this⟩
theorem kw_set {kn : List Bool} {p : Nat} (hp : p < kn.length) (q : Nat) : kw (kn.set p true) q = (decide (q = p) || kw kn q) := by
 unfold kw
 rw [List.getD_eq_getElem?_getD, List.getElem?_set, List.getD_eq_getElem?_getD]
 by_cases e : p = q
 ·subst e; simp [hp]
 ·simp [e, Ne.symm e]
theorem kw_lt {kn : List Bool} {p : Nat} (h : kw kn p = true) : p < kn.length := by
 unfold kw at h
 rw [List.getD_eq_getElem?_getD] at h
 by_cases e : p < kn.length
 ·exact e
 ·rw [List.getElem?_eq_none (by omega)] at h
  cases h
theorem count_set {kn : List Bool} : ∀ {p : Nat}, p < kn.length → kw kn p = false → (kn.set p true).count false + 1 = kn.count false := by
 induction kn with
 | nil => intro p hp; simp at hp
 | cons a kn ih =>
  intro p hp hf
  cases p with
  | zero =>
   have : a = false := by simpa [kw] using hf
   subst this
   simp
  | succ p =>
   have := ih (p := p) (by simpa using hp) (by simpa [kw] using hf)
   rw [List.set_cons_succ, List.count_cons, List.count_cons]
   omega
theorem lrn_ext (s : FSt) (k : List Int) : FExt s (lrn s k) := by
 unfold lrn
 cases hp : pk k with
 | none => exact FExt.refl s
 | some p =>
  dsimp only
  by_cases h : p < s.1.length ∧ kw s.1 p = false
  ·rw [if_pos h]
   refine ⟨by simp, fun q hq => by rw [kw_set h.1, hq]; simp, ⟨[p], rfl, fun q hq => ?_, fun q hq => ?_⟩, ?_⟩
   ·rw [kw_set h.1] at hq
    rcases Bool.or_eq_true _ _ ▸ hq with e | e
    ·exact .inr (by simpa using e)
    ·exact .inl e
   ·rw [List.mem_singleton] at hq
    subst hq
    exact ⟨by rw [kw_set h.1]; simp, h.1⟩
   ·show (s.1.set p true).count false + (s.2 ++ [p]).length = s.1.count false + s.2.length
    have := count_set h.1 h.2
    simp
    omega
  ·rw [if_neg h]
   exact FExt.refl s
theorem lrn_has {s : FSt} {k : List Int} {p : Nat} (hk : pk k = some p) (hp : p < s.1.length) : kw (lrn s k).1 p = true := by
 unfold lrn
 rw [hk]
 dsimp only
 by_cases h : kw s.1 p = false
 ·rw [if_pos ⟨hp, h⟩]
  rw [kw_set hp]
  simp
 ·rw [if_neg (fun c => h c.2)]
  simpa using h
theorem foldl_ext {α : Type} {f : FSt → α → FSt} (hf : ∀ s a, FExt s (f s a)) : ∀ (l : List α) (s : FSt), FExt s (l.foldl f s)
 | [], s => FExt.refl s
 | a :: l, s => (hf s a).trans (foldl_ext hf l (f s a))
theorem foldl_at {α : Type} {f : FSt → α → FSt} (hf : ∀ s a, FExt s (f s a)) : ∀ {l : List α} {a : α} (s : FSt), a ∈ l → ∃ t, FExt s t ∧ FExt (f t a) (l.foldl f s)
 | b :: l, a, s, h => by
  rcases List.mem_cons.1 h with rfl | h
  ·exact ⟨s, FExt.refl s, foldl_ext hf l _⟩
  ·obtain ⟨t, h1, h2⟩ := foldl_at hf (f s b) h
   exact ⟨t, (hf s b).trans h1, h2⟩
theorem tryS_ext (T : List TermD) (s : FSt) (i : Nat) : FExt s (tryS T s i) := by
 unfold tryS
 split
 ·exact lrn_ext _ _
 ·exact FExt.refl s
theorem opnS_ext (T : List TermD) (s : FSt) (i : Nat) : FExt s (opnS T s i) := by
 unfold opnS
 split
 ·exact foldl_ext lrn_ext _ _
 ·exact FExt.refl s
theorem step_ext (T : List TermD) (s : FSt) (u : Nat) : FExt s (opnS T (tryS T s u) u) := (tryS_ext T s u).trans (opnS_ext T _ u)
theorem useS_ext (T : List TermD) (s : FSt) (i : Nat) : FExt s (useS T s i) := by
 unfold useS
 dsimp only
 have h := (opnS_ext T s i).trans (foldl_ext (step_ext T) (usersF (nmL i) 0 T) _)
 split
 ·exact h.trans (foldl_ext (tryS_ext T) _ _)
 ·exact h
theorem mem_users {k : List Int} {x : TermD} (hk : k ∈ x.keys) : ∀ {T : List TermD} {n j : Nat}, T[j]? = some x → n + j ∈ usersF k n T
 | [], n, j, h => by simp at h
 | y :: T, n, 0, h => by
  cases h
  unfold usersF
  refine List.mem_append.2 (.inl (List.mem_map.2 ⟨k, ?_, rfl⟩))
  simp [hk]
 | y :: T, n, j + 1, h => by
  have := mem_users hk (T := T) (n := n + 1) (j := j) h
  unfold usersF
  refine List.mem_append.2 (.inr ?_)
  rwa [show n + (j + 1) = n + 1 + j by omega]
def kle (a b : List Bool) : Prop := ∀ p, kw a p = true → kw b p = true
theorem fol_mono {a b : List Bool} (h : kle a b) {k : List Int} (hk : fol a k = true) : fol b k = true := by
 unfold fol at *
 split <;> rename_i he <;> rw [he] at hk
 exact h _ hk
theorem pubK_mono {T : List TermD} {a b : List Bool} (h : kle a b) {k : List Int} (hk : pubK T a k = true) : pubK T b k = true := by
 unfold pubK at *
 split <;> rename_i he <;> rw [he] at hk
 ·cases hk
 ·exact h _ hk
theorem agrS_mono {T : List TermD} {a b : List Bool} (h : kle a b) {k l : List Int} (hk : agrS T a k l = true) : agrS T b k l = true := by
 unfold agrS at *
 simp only [Bool.and_eq_true, Bool.or_eq_true] at *
 exact ⟨fol_mono h hk.1, hk.2.elim (fun e => .inl (fol_mono h e)) (fun e => .inr (pubK_mono h e))⟩
theorem mks_mono {T : List TermD} {a b : List Bool} (h : kle a b) {x : TermD} (hk : mks T a x = true) : mks T b x = true := by
 unfold mks at *
 split <;> rename_i he
 ·rw [if_pos he] at hk
  exact List.all_eq_true.2 fun k hm => fol_mono h (List.all_eq_true.1 hk k hm)
 ·rw [if_neg he] at hk
  split <;> rename_i h4
  ·rw [if_pos h4] at hk
   simp only [Bool.or_eq_true] at *
   exact hk.elim (fun e => .inl (agrS_mono h e)) (fun e => .inr (agrS_mono h e))
  ·rw [if_neg h4] at hk
   cases hk
structure Cl (T : List TermD) (C : List Bool) : Prop where
 made : ∀ i, i < T.length → mks T C (trm T i) = true → kw C i = true
 shown : ∀ i, i < T.length → (trm T i).kind = 6 → kw C i = true → fol C (k0 (trm T i)) = true → ∀ k ∈ (trm T i).keys.drop 2, ∀ p, pk k = some p → p < T.length → kw C p = true
theorem lrn_le {s : FSt} {C : List Bool} (h : kle s.1 C) {k : List Int} (hk : ∀ p, pk k = some p → p < s.1.length → kw C p = true) : kle (lrn s k).1 C := by
 unfold lrn
 cases hp : pk k with
 | none => exact h
 | some p =>
  dsimp only
  split
  ·rename_i hc
   intro q hq
   rw [kw_set hc.1] at hq
   rcases Bool.or_eq_true _ _ ▸ hq with e | e
   ·rw [of_decide_eq_true e]; exact hk p hp hc.1
   ·exact h q e
  ·exact h
theorem lrns_le {C : List Bool} : ∀ {l : List (List Int)} {s : FSt}, kle s.1 C → (∀ k ∈ l, ∀ p, pk k = some p → p < s.1.length → kw C p = true) → kle (l.foldl lrn s).1 C
 | [], s, h, _ => h
 | k :: l, s, h, hk => lrns_le (l := l) (s := lrn s k) (lrn_le h (hk k (by simp))) (fun k' hk' p h1 h2 => hk k' (by simp [hk']) p h1 (by rw [(lrn_ext s k).len] at h2; exact h2))
theorem tryS_le {T : List TermD} (hm : T.length ≤ 1000000) {s : FSt} {C : List Bool} (hn : s.1.length = T.length) (hC : Cl T C) (h : kle s.1 C) (i : Nat) (hi : i < T.length) : kle (tryS T s i).1 C := by
 unfold tryS
 split
 ·rename_i hc
  refine lrn_le h fun p hp hl => ?_
  rw [pk_nm (by omega)] at hp
  cases hp
  exact hC.made i hi (mks_mono h hc.2)
 ·exact h
theorem opnS_le {T : List TermD} {s : FSt} {C : List Bool} (hn : s.1.length = T.length) (hC : Cl T C) (h : kle s.1 C) (i : Nat) : kle (opnS T s i).1 C := by
 unfold opnS
 split
 ·rename_i hc
  have hi : i < T.length := by have := kw_lt hc.2.1; omega
  refine lrns_le h fun k hk p h1 h2 => ?_
  rw [hn] at h2
  exact hC.shown i hi hc.1 (h i hc.2.1) (fol_mono h hc.2.2) k hk p h1 h2
 ·exact h
theorem users_lt {k : List Int} : ∀ {T : List TermD} {n u : Nat}, u ∈ usersF k n T → u < n + T.length
 | [], n, u, h => by simp [usersF] at h
 | x :: T, n, u, h => by
  unfold usersF at h
  rcases List.mem_append.1 h with h | h
  ·obtain ⟨_, _, rfl⟩ := List.mem_map.1 h
   simp
  ·have := users_lt h
   simp
   omega
theorem fold_le {T : List TermD} {C : List Bool} {f : FSt → Nat → FSt} (hf : ∀ s i, s.1.length = T.length → i < T.length → kle s.1 C → kle (f s i).1 C) (hx : ∀ s a, FExt s (f s a)) : ∀ {l : List Nat} {s : FSt}, (∀ i ∈ l, i < T.length) → s.1.length = T.length → kle s.1 C → kle (l.foldl f s).1 C
 | [], s, _, _, h => h
 | i :: l, s, hl, hn, h => fold_le hf hx (l := l) (s := f s i) (fun j hj => hl j (by simp [hj])) ((hx s i).len.trans hn) (hf s i hn (hl i (by simp)) h)
theorem useS_le {T : List TermD} (hm : T.length ≤ 1000000) {s : FSt} {C : List Bool} (hn : s.1.length = T.length) (hC : Cl T C) (h : kle s.1 C) (i : Nat) : kle (useS T s i).1 C := by
 unfold useS
 dsimp only
 have h1 := opnS_le hn hC h i
 have n1 := (opnS_ext T s i).len.trans hn
 have hu : ∀ k, ∀ u ∈ usersF k 0 T, u < T.length := fun k u hu => by have := users_lt hu; omega
 have h2 := fold_le (C := C) (f := fun s u => opnS T (tryS T s u) u) (fun s i a b c => opnS_le ((tryS_ext T s i).len.trans a) hC (tryS_le hm a hC c i b) i) (step_ext T) (hu (nmL i)) n1 h1
 have n2 := (foldl_ext (step_ext T) (usersF (nmL i) 0 T) (opnS T s i)).len.trans n1
 split
 ·exact fold_le (fun s i a b c => tryS_le hm a hC c i b) (tryS_ext T) (hu _) n2 h2
 ·exact h2
theorem runS_le {T : List TermD} (hm : T.length ≤ 1000000) {C : List Bool} (hC : Cl T C) : ∀ (f : Nat) {s : FSt}, s.1.length = T.length → kle s.1 C → kle (runS T f s).1 C
 | 0, s, _, h => h
 | f + 1, s, hn, h => by
  unfold runS
  split
  ·exact h
  ·exact runS_le hm hC f ((useS_ext T _ _).len.trans hn) (useS_le (s := (s.1, s.2.dropLast)) hm hn hC h _)
theorem zero_le (n : Nat) (C : List Bool) : kle (List.replicate n false) C := fun p hp => by
 unfold kw at hp
 rw [List.getD_eq_getElem?_getD, List.getElem?_replicate] at hp
 split at hp <;> cases hp
theorem pass_len (T : List TermD) (seen : List (List Int)) : (passS T seen).1.length = T.length := by
 unfold passS seedS
 rw [(foldl_ext (tryS_ext T) _ _).len, (foldl_ext lrn_ext _ _).len]
 simp
theorem fol_sound {T : List TermD} (hm : T.length ≤ 1000000) {C : List Bool} (hC : Cl T C) {seen : List (List Int)} (hs : ∀ k ∈ seen, ∀ p, pk k = some p → p < T.length → kw C p = true) : kle (folL T seen) C := by
 refine runS_le hm hC _ (pass_len T seen) ?_
 refine fold_le (fun s i a b c => tryS_le hm a hC c i b) (tryS_ext T) (fun i hi => List.mem_range.1 hi) ?_ (lrns_le (zero_le _ _) ?_)
 ·unfold seedS
  rw [(foldl_ext lrn_ext _ _).len]
  simp
 ·intro k hk p h1 h2
  exact hs k hk p h1 (by simpa using h2)
def FDone (s : FSt) (D : List Bool) : Prop := ∀ p, kw D p = true ↔ kw s.1 p = true ∧ p ∉ s.2
structure FInv (T : List TermD) (s : FSt) : Prop where
 len : s.1.length = T.length
 wait : ∀ p ∈ s.2, kw s.1 p = true
 cons : ∀ D, FDone s D → (∀ i, i < T.length → mks T D (trm T i) = true → kw s.1 i = true) ∧ (∀ i, i < T.length → (trm T i).kind = 6 → kw D i = true → fol D (k0 (trm T i)) = true → ∀ k ∈ (trm T i).keys.drop 2, ∀ p, pk k = some p → p < T.length → kw s.1 p = true)
def dn (s : FSt) : List Bool := (List.range s.1.length).map fun p => kw s.1 p && decide (p ∉ s.2)
theorem dn_done (s : FSt) : FDone s (dn s) := fun p => by
 unfold dn
 by_cases h : p < s.1.length
 ·have : kw ((List.range s.1.length).map fun p => kw s.1 p && decide (p ∉ s.2)) p = (kw s.1 p && decide (p ∉ s.2)) := by
   conv => lhs; unfold kw
   rw [List.getD_eq_getElem?_getD, List.getElem?_map, List.getElem?_range h]
   rfl
  rw [this]
  simp
 ·have h2 : kw s.1 p = false := by
   cases hk : kw s.1 p with
   | false => rfl
   | true => exact absurd (kw_lt hk) h
  have h3 : kw ((List.range s.1.length).map fun p => kw s.1 p && decide (p ∉ s.2)) p = false := by
   cases hk : kw ((List.range s.1.length).map fun p => kw s.1 p && decide (p ∉ s.2)) p with
   | false => rfl
   | true => exact absurd (by simpa using kw_lt hk) h
  rw [h2, h3]
  simp
theorem fol_less {a b : List Bool} {i : Nat} (h : ∀ p, kw a p = true → kw b p = true ∨ p = i) {k : List Int} (hk : fol a k = true) : fol b k = true ∨ k = nmL i := by
 unfold fol at *
 cases hp : pk k with
 | none => exact .inl rfl
 | some p =>
  rw [hp] at hk
  rcases h p hk with e | e
  ·exact .inl e
  ·subst e
   exact .inr (pk_some hp).symm
theorem all_less {a b : List Bool} {i : Nat} (h : ∀ p, kw a p = true → kw b p = true ∨ p = i) {l : List (List Int)} (hk : l.all (fol a) = true) : l.all (fol b) = true ∨ nmL i ∈ l := by
 by_cases hm : nmL i ∈ l
 ·exact .inr hm
 ·refine .inl (List.all_eq_true.2 fun k hkl => ?_)
  rcases fol_less h (List.all_eq_true.1 hk k hkl) with e | e
  ·exact e
  ·exact absurd (e ▸ hkl) hm
theorem trm_get {T : List TermD} {i : Nat} (hi : i < T.length) : T[i]? = some (trm T i) := by
 unfold trm
 rw [List.getD_eq_getElem?_getD, List.getElem?_eq_getElem hi]
 rfl
theorem trm_of {T : List TermD} {i : Nat} {x : TermD} (h : T[i]? = some x) : trm T i = x := by
 unfold trm
 rw [List.getD_eq_getElem?_getD, h]
 rfl
structure TWf (T : List TermD) : Prop where
 wf : ∀ x ∈ T, x.Wf
 len : T.length ≤ 1000000
 two : ∀ x ∈ T, x.kind = 4 → ∃ a b, x.keys = [a, b] ∧ TermD.Wf ⟨3, ⟨#[]⟩, [a]⟩ ∧ TermD.Wf ⟨3, ⟨#[]⟩, [b]⟩
theorem agr_less {T : List TermD} (hT : TWf T) {a b : List Bool} {i : Nat} (h : ∀ p, kw a p = true → kw b p = true ∨ p = i) {k l : List Int} (hw : TermD.Wf ⟨3, ⟨#[]⟩, [l]⟩) (hk : agrS T a k l = true) : agrS T b k l = true ∨ k = nmL i ∨ l = nmL i ∨ ((trm T i).kind = 3 ∧ k0 (trm T i) = l) := by
 unfold agrS at *
 simp only [Bool.and_eq_true, Bool.or_eq_true] at *
 rcases fol_less h hk.1 with e1 | e1
 ·rcases hk.2 with e2 | e2
  ·rcases fol_less h e2 with e3 | e3
   ·exact .inl ⟨e1, .inl e3⟩
   ·exact .inr (.inr (.inl e3))
  ·unfold pubK at e2 ⊢
   cases hp : placeT ⟨3, ⟨#[]⟩, [l]⟩ T with
   | none => rw [hp] at e2; cases e2
   | some p =>
    rw [hp] at e2
    rcases h p e2 with e3 | e3
    ·exact .inl ⟨e1, .inr e3⟩
    ·subst e3
     have := trm_of (place_some hw hT.wf hp)
     exact .inr (.inr (.inr (by rw [this]; exact ⟨rfl, rfl⟩)))
 ·exact .inr (.inl e1)
theorem use_tries {T : List TermD} {s : FSt} {i j : Nat} (hj : j ∈ usersF (nmL i) 0 T) : ∃ t, FExt s t ∧ FExt (opnS T (tryS T t j) j) (useS T s i) := by
 obtain ⟨t, h1, h2⟩ := foldl_at (step_ext T) (opnS T s i) hj
 refine ⟨t, (opnS_ext T s i).trans h1, ?_⟩
 unfold useS
 dsimp only
 split
 ·exact h2.trans (foldl_ext (tryS_ext T) _ _)
 ·exact h2
theorem use_pub {T : List TermD} {s : FSt} {i j : Nat} (h3 : (trm T i).kind = 3) (hj : j ∈ usersF (k0 (trm T i)) 0 T) : ∃ t, FExt s t ∧ FExt (tryS T t j) (useS T s i) := by
 obtain ⟨t, h1, h2⟩ := foldl_at (tryS_ext T) ((usersF (nmL i) 0 T).foldl (fun s u => opnS T (tryS T s u) u) (opnS T s i)) hj
 refine ⟨t, ((opnS_ext T s i).trans (foldl_ext (step_ext T) _ _)).trans h1, ?_⟩
 unfold useS
 dsimp only
 rw [if_pos h3]
 exact h2
theorem use_open {T : List TermD} {s : FSt} {i : Nat} : FExt (opnS T s i) (useS T s i) := by
 unfold useS
 dsimp only
 split
 ·exact (foldl_ext (step_ext T) _ _).trans (foldl_ext (tryS_ext T) _ _)
 ·exact foldl_ext (step_ext T) _ _
theorem tryS_has {T : List TermD} (hm : T.length ≤ 1000000) {s : FSt} (hn : s.1.length = T.length) {i : Nat} (hi : i < T.length) (h : mks T s.1 (trm T i) = true) : kw (tryS T s i).1 i = true := by
 unfold tryS
 by_cases hk : kw s.1 i = false
 ·rw [if_pos ⟨hk, h⟩]
  exact lrn_has (pk_nm (by omega)) (by omega)
 ·rw [if_neg (fun c => hk c.1)]
  simpa using hk
theorem opnS_has {T : List TermD} {s : FSt} (hn : s.1.length = T.length) {i : Nat} (h6 : (trm T i).kind = 6) (hk : kw s.1 i = true) (hf : fol s.1 (k0 (trm T i)) = true) {k : List Int} (hm : k ∈ (trm T i).keys.drop 2) {p : Nat} (hp : pk k = some p) (hl : p < T.length) : kw (opnS T s i).1 p = true := by
 unfold opnS
 rw [if_pos ⟨h6, hk, hf⟩]
 obtain ⟨t, h1, h2⟩ := foldl_at lrn_ext s hm
 exact h2.le p (lrn_has hp (by rw [h1.len]; omega))
theorem inv_use {T : List TermD} (hT : TWf T) {kn : List Bool} {td : List Nat} {i : Nat} (h : FInv T (kn, td ++ [i])) : FInv T (useS T (kn, td) i) := by
 have hx := useS_ext T (kn, td) i
 have hle : kle kn (useS T (kn, td) i).1 := hx.le
 obtain ⟨L, hL1, hL2, hL3⟩ := hx.new
 have hlen := hx.len.trans h.len
 have hki : kw kn i = true := h.wait i (by simp)
 have hii : i < T.length := by have := kw_lt hki; have := h.len; simp at this; omega
 refine ⟨hlen, fun p hp => ?_, fun D hD => ?_⟩
 ·rw [hL1] at hp
  rcases List.mem_append.1 hp with h1 | h1
  ·exact hle p (h.wait p (by simp [show p ∈ td from h1]))
  ·exact (hL3 p h1).1
 have hD0 := dn_done (kn, td ++ [i])
 obtain ⟨c1, c2⟩ := h.cons _ hD0
 have hless : ∀ p, kw D p = true → kw (dn (kn, td ++ [i])) p = true ∨ p = i := fun p hp => by
  obtain ⟨a1, a2⟩ := (hD p).1 hp
  rw [hL1] at a2
  rcases hL2 p a1 with b | b
  ·by_cases e : p = i
   ·exact .inr e
   ·exact .inl ((hD0 p).2 ⟨b, fun hm => by
     rcases List.mem_append.1 hm with hm | hm
     ·exact a2 (List.mem_append.2 (.inl hm))
     ·exact e (by simpa using hm)⟩)
  ·exact absurd (List.mem_append.2 (.inr b)) a2
 have hDk : kle D kn := fun p hp => by
  rcases hless p hp with e | e
  ·exact ((hD0 p).1 e).1
  ·rw [e]; exact hki
 have hus : ∀ {j : Nat} {k : List Int}, j < T.length → k ∈ (trm T j).keys → j ∈ usersF k 0 T := fun {j k} hj hk => by
  have := mem_users hk (n := 0) (trm_get hj)
  rwa [Nat.zero_add] at this
 have hn2 : ∀ {t : FSt}, FExt (kn, td) t → t.1.length = T.length := fun h1 => h1.len.trans h.len
 have viaUser : ∀ j, j < T.length → nmL i ∈ (trm T j).keys → mks T D (trm T j) = true → kw (useS T (kn, td) i).1 j = true := fun j hj hk hmk => by
  obtain ⟨t, h1, h2⟩ := use_tries (s := (kn, td)) (hus hj hk)
  exact h2.le j ((opnS_ext T _ j).le j (tryS_has hT.len (hn2 h1) hj (mks_mono (fun p hp => h1.le p (hDk p hp)) hmk)))
 refine ⟨fun j hj hmk => ?_, fun j hj h6 hdj hf k hk p hp hl => ?_⟩
 ·by_cases hold : mks T (dn (kn, td ++ [i])) (trm T j) = true
  ·exact hle j (c1 j hj hold)
  ·by_cases hu : nmL i ∈ (trm T j).keys
   ·exact viaUser j hj hu hmk
   ·have hmk0 := hmk
    unfold mks at hmk hold
    by_cases hkd : (trm T j).kind = 2 ∨ (trm T j).kind = 3 ∨ (trm T j).kind = 5 ∨ (trm T j).kind = 6
    ·rw [if_pos hkd] at hmk hold
     rcases all_less hless hmk with e | e
     ·exact absurd e hold
     ·exact absurd e hu
    ·rw [if_neg hkd] at hmk hold
     by_cases h4 : (trm T j).kind = 4
     ·rw [if_pos h4] at hmk hold
      obtain ⟨a, b, hab, wa, wb⟩ := hT.two _ (List.mem_of_getElem? (trm_get hj)) h4
      have e0 : k0 (trm T j) = a := by unfold k0; rw [hab]; rfl
      have e1 : k1 (trm T j) = b := by unfold k1; rw [hab]; rfl
      have ha : a ∈ (trm T j).keys := by rw [hab]; simp
      have hb : b ∈ (trm T j).keys := by rw [hab]; simp
      rw [e0, e1] at hmk hold
      simp only [Bool.or_eq_true] at hmk hold
      have viaPub : ∀ l, l ∈ (trm T j).keys → (trm T i).kind = 3 → k0 (trm T i) = l → kw (useS T (kn, td) i).1 j = true := fun l hl h3 he => by
       obtain ⟨t, h1, h2⟩ := use_pub (s := (kn, td)) h3 (hus hj (he ▸ hl))
       exact h2.le j (tryS_has hT.len (hn2 h1) hj (mks_mono (fun p hp => h1.le p (hDk p hp)) hmk0))
      rcases hmk with e | e
      ·rcases agr_less hT hless wb e with f | f | f | ⟨f, g⟩
       ·exact absurd (.inl f) hold
       ·exact absurd (f ▸ ha) hu
       ·exact absurd (f ▸ hb) hu
       ·exact viaPub b hb f g
      ·rcases agr_less hT hless wa e with f | f | f | ⟨f, g⟩
       ·exact absurd (.inr f) hold
       ·exact absurd (f ▸ hb) hu
       ·exact absurd (f ▸ ha) hu
       ·exact viaPub a ha f g
     ·rw [if_neg h4] at hmk
      cases hmk
 ·rcases hless j hdj with e | e
  ·rcases fol_less hless hf with f | f
   ·exact hle p (c2 j hj h6 e f k hk p hp hl)
   ·by_cases h0 : (trm T j).keys = []
    ·rw [h0] at hk; simp at hk
    have hu : nmL i ∈ (trm T j).keys := by
     rw [← f]
     unfold k0
     cases hks : (trm T j).keys with
     | nil => exact absurd hks h0
     | cons a l => simp
    obtain ⟨t, h1, h2⟩ := use_tries (s := (kn, td)) (hus hj hu)
    refine h2.le p (opnS_has ((tryS_ext T t j).len.trans (hn2 h1)) h6 ((tryS_ext T t j).le j (h1.le j (hDk j hdj))) (fol_mono (fun q hq => (tryS_ext T t j).le q (h1.le q (hDk q hq))) hf) hk hp hl)
  ·subst e
   exact use_open.le p (opnS_has (s := (kn, td)) h.len h6 hki (fol_mono hDk hf) hk hp hl)
theorem inv_pass {T : List TermD} (hT : TWf T) (seen : List (List Int)) : FInv T (passS T seen) ∧ muF (passS T seen) = T.length := by
 have hx : FExt (List.replicate T.length false, []) (passS T seen) := by
  unfold passS seedS
  exact (foldl_ext lrn_ext _ _).trans (foldl_ext (tryS_ext T) _ _)
 obtain ⟨L, hL1, hL2, hL3⟩ := hx.new
 have hno : ∀ p, kw (List.replicate T.length false) p = true → False := fun p hp => by
  have := zero_le T.length (List.replicate 0 false) p hp
  have := kw_lt this
  simp at this
 refine ⟨⟨pass_len T seen, fun p hp => ?_, fun D hD => ⟨fun i hi hmk => ?_, fun i hi h6 hd => ?_⟩⟩, ?_⟩
 ·rw [hL1] at hp
  exact (hL3 p (by simpa using hp)).1
 ·have hDe : ∀ p, kw D p = true → False := fun p hp => by
   obtain ⟨a, b⟩ := (hD p).1 hp
   rw [hL1] at b
   rcases hL2 p a with e | e
   ·exact hno p e
   ·exact b (by simpa using e)
  unfold passS
  obtain ⟨t, h1, h2⟩ := foldl_at (tryS_ext T) (seedS T.length seen) (List.mem_range.2 hi)
  refine h2.le i (tryS_has hT.len ?_ hi (mks_mono (fun p hp => (hDe p hp).elim) hmk))
  rw [h1.len]
  unfold seedS
  rw [(foldl_ext lrn_ext _ _).len]
  simp
 ·exfalso
  obtain ⟨a, b⟩ := (hD i).1 hd
  rw [hL1] at b
  rcases hL2 i a with e | e
  ·exact hno i e
  ·exact b (by simpa using e)
 ·rw [hx.mu]
  show (List.replicate T.length false).count false + 0 = _
  rw [List.count_replicate_self]
  rfl
theorem last_split {l : List Nat} {i : Nat} (h : l.getLast? = some i) : l = l.dropLast ++ [i] := by
 have hne : l ≠ [] := fun e => by rw [e] at h; cases h
 rw [List.getLast?_eq_some_getLast hne] at h
 cases h
 exact (List.dropLast_concat_getLast hne).symm
theorem run_end {T : List TermD} (hT : TWf T) : ∀ (f : Nat) {s : FSt}, muF s ≤ f → FInv T s → FInv T (runS T f s) ∧ (runS T f s).2 = []
 | 0, s, hm, h => by
  refine ⟨h, ?_⟩
  have : s.2.length = 0 := by unfold muF at hm; omega
  exact List.eq_nil_of_length_eq_zero this
 | f + 1, s, hm, h => by
  unfold runS
  split
  ·rename_i e
   exact ⟨h, List.getLast?_eq_none_iff.1 e⟩
  ·rename_i i e
   have e2 := last_split e
   have h' : FInv T (s.1, s.2.dropLast ++ [i]) := by rw [← e2]; exact h
   refine run_end hT f ?_ (inv_use hT h')
   rw [(useS_ext T _ i).mu]
   have : s.2.length = s.2.dropLast.length + 1 := by rw [congrArg List.length e2]; simp
   show s.1.count false + s.2.dropLast.length ≤ f
   unfold muF at hm
   omega
theorem fol_closed {T : List TermD} (hT : TWf T) (seen : List (List Int)) : Cl T (folL T seen) := by
 obtain ⟨h1, h2⟩ := inv_pass hT seen
 obtain ⟨h3, h4⟩ := run_end hT T.length (Nat.le_of_eq h2) h1
 have hd : FDone (runS T T.length (passS T seen)) (folL T seen) := fun p => by
  rw [h4]
  simp [folL]
 obtain ⟨c1, c2⟩ := h3.cons _ hd
 exact ⟨c1, c2⟩
theorem runS_ext1 (T : List TermD) : ∀ (f : Nat) (s : FSt), (runS T f s).1.length = s.1.length ∧ kle s.1 (runS T f s).1
 | 0, s => ⟨rfl, fun _ h => h⟩
 | f + 1, s => by
  unfold runS
  split
  ·exact ⟨rfl, fun _ h => h⟩
  ·rename_i i e
   have h := runS_ext1 T f (useS T (s.1, s.2.dropLast) i)
   have hx := useS_ext T (s.1, s.2.dropLast) i
   exact ⟨h.1.trans hx.len, fun p hp => h.2 p (hx.le p hp)⟩
theorem fol_len (T : List TermD) (seen : List (List Int)) : (folL T seen).length = T.length := ((runS_ext1 T _ _).1).trans (pass_len T seen)
theorem fol_seen {T : List TermD} {seen : List (List Int)} {k : List Int} (hk : k ∈ seen) {p : Nat} (hp : pk k = some p) (hl : p < T.length) : kw (folL T seen) p = true := by
 refine (runS_ext1 T _ _).2 p ?_
 unfold passS
 refine (foldl_ext (tryS_ext T) _ _).le p ?_
 unfold seedS
 obtain ⟨t, h1, h2⟩ := foldl_at lrn_ext (List.replicate T.length false, []) hk
 exact h2.le p (lrn_has hp (by rw [h1.len]; simpa using hl))
end
section
theorem find_ac {nro : Nat} {γ : Nat → Option Nat} {H : AH} {b mb : Nat} {tv : Value} {Ft F : List Nat} {L : List (Value × TermD)} (h : TblF H b mb tv Ft F L) {k : List Int} (hk : k.length = 32) (hb : By k) : AC Tryd.prog nro γ 66 #[.pointer (some ⟨b, 0, none⟩), .agg (iv .u8 k).toArray] H (fun v' H' => v' = findV L k ∧ Low H.length H H') :=
 (find_rc h hk hb).thaw (fun v H' hq => ⟨hq.2.2, hq.2.1⟩)
end
section
attribute [local simp] wb_bool wb_undef with_lit XL_nil XL_cons XLc_val XLc_call step1_eq stepW_t stepW_f stepC_n stepC_s stepX_s stepX_n stepN_s calleeX xrecv oneV xop_eq xopR_s xopR_n wantedA_eq wantedG_n wantedG_s plain1_int plain1_bool plain1_string bits_i64 bits_u64 bits_u32 bits_u16 bits_u8 xeqA xagg xcmp xarr allK_iv num_iv calleeOf xread xeff xbin xint xnil xun xstr xload xconv xpart xfield xfieldAddr xindexAddr xindex bnd asInt? xslice xlen xmin xmax xbuild xfill xappend xapp2 xappstr xappmk xcap xcopy xcells eval_tmp eval_const put_at put_none fr0_at cells_agg cells_int cells_bool cells_string cells_ptr cells_slice notTuple tab iv_all hget_app hget_app0 hget_cons0 hget_cons set_app set_app0 setR setR_one QL_nil QL_cons QLc_val stepQ_t stepQ_f stepQC_n stepQC_s stepQX_s SL_nil SL_cons SLc_val stepS_t stepS_f ltT ltF leT leF eqT eqF ltTn ltFn leTn leFn eqTn eqFn beqT beqF bneT bneF wi64 wu64 wu32 wu16 wu8 tmodP tdivP hgetL hgetNe hgetEq setL nums_def nums_len Nat.succ_le_of_lt List.getElem?_cons_zero List.getElem?_cons_succ Option.getD_some Int.toNat_add Int.toNat_mul agM okM agB agI agS agP agL agA okB okI okS okP okSl okA nt_strG nt_boolG nt_aggG nt_intG nt_ptrG nt_slG
section
def bsC (l : List Bool) : List Value := l.map .bool
def tdC (l : List Nat) : List Value := l.map fun p => .int .i64 (p : Nat)
def Tdo (H : AH) (v : Value) (td : List Nat) (Fd : List Nat) : Prop :=
 (v = .slice none 0 0 ∧ td = [] ∧ Fd = []) ∨ ∃ j cs, Fd = [j] ∧ v = .slice (some ⟨j, 0, none⟩) td.length td.length ∧ hget H j = some ⟨cs, 3, some 1⟩ ∧ tdC td <+: cs
theorem Tdo.low {H G : AH} {v : Value} {td Fd : List Nat} (h : Tdo H v td Fd) (hl : ∀ j ∈ Fd, hget G j = hget H j) : Tdo G v td Fd := by
 rcases h with h | ⟨j, cs, rfl, h2, h3, h4⟩
 ·exact .inl h
 ·exact .inr ⟨j, cs, rfl, h2, (hl j (by simp)).trans h3, h4⟩
theorem Tdo.nt {H : AH} {v : Value} {td Fd : List Nat} (h : Tdo H v td Fd) : notTuple v = true ∧ v.cells = #[v] ∧ (∀ j ∈ Fd, j < H.length) ∧ xlen Tryd.prog 39 v = some (.int .i64 (td.length : Nat)) := by
 have hu : und Tryd.prog 39 = .slice 3 := by kernel_rfl
 rcases h with ⟨rfl, rfl, rfl⟩ | ⟨j, cs, rfl, rfl, h3, h4⟩
 ·refine ⟨rfl, rfl, by simp, ?_⟩
  unfold xlen
  simp only [hu]
  rfl
 ·refine ⟨rfl, rfl, fun i hi => ?_, ?_⟩
  ·rw [List.mem_singleton.1 hi]; exact hget_lt h3
  ·unfold xlen
   simp only [hu]
theorem tdC_len (l : List Nat) : (tdC l).length = l.length := by simp [tdC]
theorem bsC_get {l : List Bool} {p : Nat} {b : Bool} (h : l[p]? = some b) : (bsC l)[p]? = some (.bool b) := by simp [bsC, h]
theorem kw_get {l : List Bool} {p : Nat} (h : p < l.length) : l[p]? = some (kw l p) := by
 unfold kw
 rw [List.getD_eq_getElem?_getD, List.getElem?_eq_getElem h]
 rfl
theorem bsC_set (l : List Bool) (p : Nat) : setR (bsC l) p [.bool true] = bsC (l.set p true) := by
 unfold bsC
 rw [setR_one, List.map_set]
theorem tdo_push {nro : Nat} {H : AH} {v : Value} {td Fd : List Nat} (h : Tdo H v td Fd) (hnro : ∀ j ∈ Fd, nro ≤ j) (p : Nat) (hm : td.length ≤ 10000000000000) :
  ∃ v' G, xappend Tryd.prog nro 39 v (.slice (some ⟨H.length, 0, none⟩) 1 1) (H ++ [some ⟨[.int .i64 (p : Nat)], 3, some 1⟩]) = some (v', G) ∧ Tdo G v' (td ++ [p]) [H.length + 1] ∧ notTuple v' = true ∧ v'.cells = #[v'] ∧ G.length = H.length + 2 ∧ ∀ j, j < H.length → j ∉ Fd → hget G j = hget H j := by
 have hu : und Tryd.prog 39 = .slice 3 := by kernel_rfl
 have hs : szt Tryd.prog 3 = 1 := by kernel_rfl
 have hz : (zer Tryd.prog 3).map (·.cells.size) = some 1 := by kernel_rfl
 have hby : byt Tryd.prog 3 = 8 := by kernel_rfl
 have hx : xcells 1 (.slice (some ⟨H.length, 0, none⟩) 1 1) (H ++ [some ⟨[.int .i64 (p : Nat)], 3, some 1⟩]) = some [.int .i64 (p : Nat)] := by
  unfold xcells
  simp only [hget_app0]
  rfl
 have htd : tdC (td ++ [p]) = tdC td ++ [.int .i64 (p : Nat)] := by simp [tdC]
 have hl1 : (H ++ [some (⟨[.int .i64 (p : Nat)], 3, some 1⟩ : Blk)]).length = H.length + 1 := by simp
 rcases h with ⟨rfl, rfl, rfl⟩ | ⟨j, cs, rfl, rfl, h3, h4⟩
 ·refine ⟨.slice (some ⟨H.length + 1, 0, none⟩) 1 1, (H ++ [some ⟨[.int .i64 (p : Nat)], 3, some 1⟩]) ++ [some ⟨[.int .i64 (p : Nat)], 3, some 1⟩], ?_, .inr ⟨H.length + 1, _, rfl, rfl, ?_, List.prefix_rfl⟩, rfl, rfl, by simp, fun j hj _ => by rw [hget_left (by rw [hl1]; omega), hget_left hj]⟩
  ·unfold xappend
   simp only [hu, hs, hx]
   rw [if_pos ⟨by omega, hz, by rw [hby]; simp, by simp [maxLen]⟩, if_neg (by simp)]
   simp
  ·rw [← hl1, hget_app0]
   rfl
 ·have hj := hget_lt h3
  have hpl := h4.length_le
  rw [tdC_len] at hpl
  have hpt : cs.take td.length = tdC td := by
   obtain ⟨r, rfl⟩ := h4
   rw [← tdC_len td]; simp
  have h3' : hget (H ++ [some ⟨[.int .i64 (p : Nat)], 3, some 1⟩]) j = some ⟨cs, 3, some 1⟩ := (hget_left hj).trans h3
  refine ⟨.slice (some ⟨H.length + 1, 0, none⟩) (td.length + 1) (td.length + 1), (H ++ [some (⟨[.int .i64 (p : Nat)], 3, some 1⟩ : Blk)]).set j none ++ [some ⟨tdC td ++ [.int .i64 (p : Nat)], 3, some 1⟩], ?_, .inr ⟨H.length + 1, _, rfl, by simp, ?_, by rw [htd]; exact List.prefix_rfl⟩, rfl, rfl, by simp, fun i hi hn => ?_⟩
  ·have hc : True ∧ 0 < 1 ∧ (zer Tryd.prog 3).map (·.cells.size) = some 1 ∧ nro ≤ j ∧ True ∧ True ∧ td.length * 1 ≤ cs.length ∧ (td.length * 1 + [Value.int .i64 (p : Nat)].length) * byt Tryd.prog 3 ≤ 140737488355328 ∧ td.length * 1 + [Value.int .i64 (p : Nat)].length ≤ maxLen :=
    ⟨trivial, by omega, hz, hnro j (by simp), trivial, trivial, by omega, by rw [hby]; simp; omega, by simp [maxLen]; omega⟩
   unfold xappend
   simp only [hu, hs, hx, h3']
   rw [if_pos hc, Nat.mul_one, hpt]
   simp
  ·rw [show H.length + 1 = ((H ++ [some (⟨[.int .i64 (p : Nat)], 3, some 1⟩ : Blk)]).set j none).length by simp, hget_app0]
   rfl
  ·rw [hget_left (by simp; omega), hget_set_ne (fun e => hn (by simp [e])), hget_left hi]
def SrD (H : AH) (n sb kb mb ub : Nat) (tv : Value) (F : List Nat) (s : FSt) : Prop :=
 ∃ tdv Fd, F = sb :: kb :: Fd ∧ hget H sb = some ⟨[tv, .map (some mb), .map (some ub), .slice (some ⟨kb, 0, none⟩) n n, tdv], 88, none⟩ ∧ hget H kb = some ⟨bsC s.1, 4, some 1⟩ ∧ s.1.length = n ∧ Tdo H tdv s.2 Fd ∧ sb ≠ kb ∧ sb ∉ Fd ∧ kb ∉ Fd ∧ muF s ≤ 1000000
def SrQ (H : AH) (n sb kb mb ub : Nat) (tv : Value) (F : List Nat) (s : FSt) (v' : Value) (H' : AH) : Prop :=
 v' = .tuple #[] ∧ H.length ≤ H'.length ∧ (∀ j, j < H.length → j ∉ F → hget H' j = hget H j) ∧ ∃ F', SrD H' n sb kb mb ub tv F' s ∧ ∀ j ∈ F', j ∈ F ∨ H.length ≤ j
theorem SrD.bound {H : AH} {n sb kb mb ub : Nat} {tv : Value} {F : List Nat} {s : FSt} (h : SrD H n sb kb mb ub tv F s) : ∀ j ∈ F, j < H.length := by
 obtain ⟨tdv, Fd, rfl, h1, h2, _, h4, _⟩ := h
 intro j hj
 simp only [List.mem_cons] at hj
 rcases hj with rfl | rfl | hj
 ·exact hget_lt h1
 ·exact hget_lt h2
 ·exact h4.nt.2.2.1 j hj
theorem SrD.low {H G : AH} {n sb kb mb ub : Nat} {tv : Value} {F : List Nat} {s : FSt} (h : SrD H n sb kb mb ub tv F s) (hl : ∀ j ∈ F, hget G j = hget H j) : SrD G n sb kb mb ub tv F s := by
 obtain ⟨tdv, Fd, rfl, h1, h2, h3, h4, h5⟩ := h
 exact ⟨tdv, Fd, rfl, (hl sb (by simp)).trans h1, (hl kb (by simp)).trans h2, h3, h4.low (fun j hj => hl j (by simp [hj])), h5⟩
theorem SrD.same {H G : AH} {n sb kb mb ub : Nat} {tv : Value} {F : List Nat} {s : FSt} (h : SrD H n sb kb mb ub tv F s) (lw : Low H.length H G) : SrQ H n sb kb mb ub tv F s (.tuple #[]) G :=
 ⟨rfl, lw.2, fun j hj _ => lw.1 j hj, F, h.low (fun j hj => lw.1 j (h.bound j hj)), fun j hj => .inl hj⟩
theorem pk_cases (k : List Int) (hb : By k) (hk : k.length = 32) : ∃ p : Nat, plN k = (p : Int) ∧ ((decide (nmL (plN k) = k) = false ∧ pk k = none) ∨ (decide (nmL (plN k) = k) = true ∧ pk k = some p)) := by
 have h0 : 0 ≤ plN k := by
  have b4 := hb.get 4
  have b5 := hb.get 5
  have b6 := hb.get 6
  have b7 := hb.get 7
  unfold plN
  omega
 obtain ⟨p, hp⟩ := Int.eq_ofNat_of_zero_le h0
 refine ⟨p, hp, ?_⟩
 unfold pk
 by_cases e : nmL (plN k) = k
 ·exact .inr ⟨by simp [e], by rw [if_pos e, hp]; rfl⟩
 ·exact .inl ⟨by simp [e], by rw [if_neg e]⟩
theorem pl_bound {k : List Int} (hb : By k) : plN k < 4294967296 := by
 have b4 := hb.get 4
 have b5 := hb.get 5
 have b6 := hb.get 6
 have b7 := hb.get 7
 unfold plN
 omega
theorem follows_rc {γ : Nat → Option Nat} {H : AH} {kb n : Nat} {kn : List Bool} (hg : hget H kb = some ⟨bsC kn, 4, some 1⟩) (hl : kn.length = n) (hn : n ≤ 1000000) {k : List Int} (hk : k.length = 32) (hb : By k) :
  AC Tryd.prog H.length γ 45 #[.slice (some ⟨kb, 0, none⟩) n n, .agg (iv .u8 k).toArray] H (fun v' _ => v' = .bool (fol kn k)) := by
 have htk : (iv .u8 k).take 32 = iv .u8 k := List.take_of_length_le (by simp [hk])
 have hpl := fun (G : AH) => place_rc (γ := γ) (H := G) hk hb
 have hbd := pl_bound hb
 have hgl := hget_lt hg
 have hbl : (bsC kn).length = n := by simp [bsC, hl]
 obtain ⟨p, hp, hc⟩ := pk_cases k hb hk
 unfold fol
 generalize decide (nmL (plN k) = k) = ok at *
 generalize plN k = pz at *
 subst hp
 rcases hc with ⟨rfl, hc⟩ | ⟨rfl, hc⟩
 ·rw [hc]
  refine ac_of_aw Tryd.func45 rfl Tryd.ntmps45 Tryd.results45 (by simp) ?_
  (refine aw_seq (aoo fun K hK => ?_); simp (disch := first | omega | (simp only [lnS]; try omega)) [-getElem?_pos, -getElem?_neg, htk]; refine hK _ _ ?_; clear hK K)
  refine aw_seq (aoo fun K hK => ?_)
  simp (disch := first | omega | (simp only [lnS]; try omega)) [-getElem?_pos, -getElem?_neg, htk]
  refine ⟨by kernel_rfl, ac_of_rc (hpl _) (by simp [pv_iv, pv_int, pv_bool, pv_string, pv_tup2, pv_tup3, iv_plain, p2_int, p2_bool, p2_string]) ?_⟩
  try simp (disch := first | omega | (simp only [lnS]; try omega)) [-getElem?_pos, -getElem?_neg]
  refine hK _ _ ?_; clear hK K
  (refine aw_seq (aoo fun K hK => ?_); simp (disch := first | omega | (simp only [lnS]; try omega)) [-getElem?_pos, -getElem?_neg]; refine hK _ _ ?_; clear hK K)
  (refine aw_ret ?_; simp (disch := first | omega | (simp only [lnS]; try omega)) [-getElem?_pos, -getElem?_neg, thenQ_ret, scopeQ_ret, inBlockQ_ret, RQ, resL, resV])
 ·rw [hc]
  by_cases hlt : p < n
  ·have hcell : (bsC kn)[p]? = some (.bool (kw kn p)) := bsC_get (kw_get (by omega))
   dsimp only
   generalize kw kn p = b at *
   refine ac_of_aw Tryd.func45 rfl Tryd.ntmps45 Tryd.results45 (by simp) ?_
   (refine aw_seq (aoo fun K hK => ?_); simp (disch := first | omega | (simp only [lnS]; try omega)) [-getElem?_pos, -getElem?_neg, htk]; refine hK _ _ ?_; clear hK K)
   refine aw_seq (aoo fun K hK => ?_)
   simp (disch := first | omega | (simp only [lnS]; try omega)) [-getElem?_pos, -getElem?_neg, htk]
   refine ⟨by kernel_rfl, ac_of_rc (hpl _) (by simp [pv_iv, pv_int, pv_bool, pv_string, pv_tup2, pv_tup3, iv_plain, p2_int, p2_bool, p2_string]) ?_⟩
   try simp (disch := first | omega | (simp only [lnS]; try omega)) [-getElem?_pos, -getElem?_neg]
   refine hK _ _ ?_; clear hK K
   (refine aw_seq (aoo fun K hK => ?_); simp (disch := first | omega | (simp only [lnS]; try omega)) [-getElem?_pos, -getElem?_neg, hlt, hg, hbl, hcell]; refine hK _ _ ?_; clear hK K)
   (refine aw_ret ?_; simp (disch := first | omega | (simp only [lnS]; try omega)) [-getElem?_pos, -getElem?_neg, thenQ_ret, scopeQ_ret, inBlockQ_ret, RQ, resL, resV])
  ·have hf : kw kn p = false := by
    cases h : kw kn p with
    | false => rfl
    | true => have := kw_lt h; omega
   dsimp only
   rw [hf]
   refine ac_of_aw Tryd.func45 rfl Tryd.ntmps45 Tryd.results45 (by simp) ?_
   (refine aw_seq (aoo fun K hK => ?_); simp (disch := first | omega | (simp only [lnS]; try omega)) [-getElem?_pos, -getElem?_neg, htk]; refine hK _ _ ?_; clear hK K)
   refine aw_seq (aoo fun K hK => ?_)
   simp (disch := first | omega | (simp only [lnS]; try omega)) [-getElem?_pos, -getElem?_neg, htk]
   refine ⟨by kernel_rfl, ac_of_rc (hpl _) (by simp [pv_iv, pv_int, pv_bool, pv_string, pv_tup2, pv_tup3, iv_plain, p2_int, p2_bool, p2_string]) ?_⟩
   try simp (disch := first | omega | (simp only [lnS]; try omega)) [-getElem?_pos, -getElem?_neg]
   refine hK _ _ ?_; clear hK K
   (refine aw_seq (aoo fun K hK => ?_); simp (disch := first | omega | (simp only [lnS]; try omega)) [-getElem?_pos, -getElem?_neg, hlt, hg, hbl]; refine hK _ _ ?_; clear hK K)
   (refine aw_ret ?_; simp (disch := first | omega | (simp only [lnS]; try omega)) [-getElem?_pos, -getElem?_neg, thenQ_ret, scopeQ_ret, inBlockQ_ret, RQ, resL, resV])
theorem learn_ac {nro : Nat} {γ : Nat → Option Nat} {H : AH} {n sb kb mb ub : Nat} {tv : Value} {F : List Nat} {s : FSt} (h : SrD H n sb kb mb ub tv F s) (hnro : ∀ j ∈ F, nro ≤ j) (hnH : nro ≤ H.length) (hn : n ≤ 1000000) (htv : notTuple tv = true ∧ tv.cells = #[tv]) {k : List Int} (hk : k.length = 32) (hb : By k) :
  AC Tryd.prog nro γ 41 #[.pointer (some ⟨sb, 0, none⟩), .agg (iv .u8 k).toArray] H (SrQ H n sb kb mb ub tv F (lrn s k)) := by
 have hsame := fun (G : AH) (lw : Low H.length H G) => h.same lw
 have hmu := (lrn_ext s k).mu
 obtain ⟨tdv, Fd, rfl, hsb, hkb, hsl, htd, hne, hsF, hkF, hm⟩ := h
 have htk : (iv .u8 k).take 32 = iv .u8 k := List.take_of_length_le (by simp [hk])
 have hpl := fun (G : AH) => place_rc (γ := γ) (H := G) hk hb
 have hbd := pl_bound hb
 have hgs := hget_lt hsb
 have hgk := hget_lt hkb
 have hbl : (bsC s.1).length = n := by simp [bsC, hsl]
 have htn := htd.nt
 obtain ⟨p, hp, hc⟩ := pk_cases k hb hk
 unfold lrn
 generalize decide (nmL (plN k) = k) = ok at *
 generalize plN k = pz at *
 subst hp
 rcases hc with ⟨rfl, hc⟩ | ⟨rfl, hc⟩
 ·rw [hc]
  dsimp only
  refine ac_of_aw Tryd.func41 rfl Tryd.ntmps41 Tryd.results41 (by simp) ?_
  (refine aw_seq (aoo fun K hK => ?_); simp (disch := first | omega | (simp only [lnS]; try omega)) [-getElem?_pos, -getElem?_neg, htk]; refine hK _ _ ?_; clear hK K)
  refine aw_seq (aoo fun K hK => ?_)
  simp (disch := first | omega | (simp only [lnS]; try omega)) [-getElem?_pos, -getElem?_neg, htk]
  refine ⟨by kernel_rfl, ac_of_rc (hpl _) (by simp [pv_iv, pv_int, pv_bool, pv_string, pv_tup2, pv_tup3, iv_plain, p2_int, p2_bool, p2_string]) ?_⟩
  try simp (disch := first | omega | (simp only [lnS]; try omega)) [-getElem?_pos, -getElem?_neg]
  refine hK _ _ ?_; clear hK K
  (refine aw_seq (aoo fun K hK => ?_); simp (disch := first | omega | (simp only [lnS]; try omega)) [-getElem?_pos, -getElem?_neg]; refine hK _ _ ?_; clear hK K)
  refine aw_f (by (first | (simp; done) | (simp; omega))) (by kernel_rfl) ?_
  refine aw_skip ?_
  exact ⟨[], _, rfl, rfl, hsame _ (Low.push (Nat.le_refl _) _)⟩
 ·rw [hc]
  dsimp only
  by_cases hlt : p < n
  ·have hcell : (bsC s.1)[p]? = some (.bool (kw s.1 p)) := bsC_get (kw_get (by omega))
   by_cases hkw : ¬ kw s.1 p = false
   ·have hkt : kw s.1 p = true := by simpa using hkw
    rw [hkt] at hcell
    rw [if_neg (fun c => hkw c.2)]
    refine ac_of_aw Tryd.func41 rfl Tryd.ntmps41 Tryd.results41 (by simp) ?_
    (refine aw_seq (aoo fun K hK => ?_); simp (disch := first | omega | (simp only [lnS]; try omega)) [-getElem?_pos, -getElem?_neg, htk]; refine hK _ _ ?_; clear hK K)
    refine aw_seq (aoo fun K hK => ?_)
    simp (disch := first | omega | (simp only [lnS]; try omega)) [-getElem?_pos, -getElem?_neg, htk]
    refine ⟨by kernel_rfl, ac_of_rc (hpl _) (by simp [pv_iv, pv_int, pv_bool, pv_string, pv_tup2, pv_tup3, iv_plain, p2_int, p2_bool, p2_string]) ?_⟩
    try simp (disch := first | omega | (simp only [lnS]; try omega)) [-getElem?_pos, -getElem?_neg]
    refine hK _ _ ?_; clear hK K
    (refine aw_seq (aoo fun K hK => ?_); simp (disch := first | omega | (simp only [lnS]; try omega)) [-getElem?_pos, -getElem?_neg, hlt, hsb, hgs, hkb, hgk, hbl, hcell, -notTuple, htv.1, htn.1]; refine hK _ _ ?_; clear hK K)
    refine aw_f (by (first | (simp; done) | (simp; omega))) (by kernel_rfl) ?_
    refine aw_skip ?_
    exact ⟨[], _, rfl, rfl, hsame _ (Low.push (Nat.le_refl _) _)⟩
   ·have hkw : kw s.1 p = false := by simpa using hkw
    rw [hkw] at hcell
    rw [if_pos ⟨by omega, hkw⟩]
    refine ac_of_aw Tryd.func41 rfl Tryd.ntmps41 Tryd.results41 (by simp) ?_
    (refine aw_seq (aoo fun K hK => ?_); simp (disch := first | omega | (simp only [lnS]; try omega)) [-getElem?_pos, -getElem?_neg, htk]; refine hK _ _ ?_; clear hK K)
    refine aw_seq (aoo fun K hK => ?_)
    simp (disch := first | omega | (simp only [lnS]; try omega)) [-getElem?_pos, -getElem?_neg, htk]
    refine ⟨by kernel_rfl, ac_of_rc (hpl _) (by simp [pv_iv, pv_int, pv_bool, pv_string, pv_tup2, pv_tup3, iv_plain, p2_int, p2_bool, p2_string]) ?_⟩
    try simp (disch := first | omega | (simp only [lnS]; try omega)) [-getElem?_pos, -getElem?_neg]
    refine hK _ _ ?_; clear hK K
    (refine aw_seq (aoo fun K hK => ?_); simp (disch := first | omega | (simp only [lnS]; try omega)) [-getElem?_pos, -getElem?_neg, hlt, hsb, hgs, hkb, hgk, hbl, hcell, -notTuple, htv.1, htn.1]; refine hK _ _ ?_; clear hK K)
    refine aw_t (by (first | (simp; done) | (simp; omega))) (by kernel_rfl) ?_
    refine aw_seq ?_
    have hnk : nro ≤ kb := hnro kb (by simp)
    (refine aoo fun K hK => ?_; simp (disch := first | omega | (simp only [lnS]; try omega)) [-getElem?_pos, -getElem?_neg, hlt, hsb, hgs, hkb, hgk, hbl, hcell, -notTuple, htv.1, htn.1]; refine hK _ _ ?_; clear hK K)
    obtain ⟨G, hG⟩ : ∃ G : AH, G = List.set H kb (some ⟨(bsC s.1).set p (.bool true), 4, some 1⟩) ++ [some (⟨iv .u8 k, 41, none⟩ : Blk)] := ⟨_, rfl⟩
    have hGl : G.length = H.length + 1 := by rw [hG]; simp
    have hGs : hget G sb = some ⟨[tv, .map (some mb), .map (some ub), .slice (some ⟨kb, 0, none⟩) n n, tdv], 88, none⟩ := by rw [hG, hget_left (by simp; omega), hget_set_ne (Ne.symm hne)]; exact hsb
    have hGk : hget G kb = some ⟨bsC (s.1.set p true), 4, some 1⟩ := by rw [hG, hget_left (by simp; omega), hget_set_eq hgk, ← setR_one, bsC_set]
    have hGj : ∀ j, j < H.length → j ≠ kb → hget G j = hget H j := fun j hj hn => by rw [hG, hget_left (by simp; omega), hget_set_ne (Ne.symm hn)]
    have hGt : Tdo G tdv s.2 Fd := htd.low (fun j hj => hGj j (htn.2.2.1 j hj) (fun e => hkF (e ▸ hj)))
    have hmt : s.2.length ≤ 1000000 := by unfold muF at hm; omega
    obtain ⟨v', G2, hap, ht2, hn2, hc2, hl2, hk2⟩ := tdo_push (nro := nro) hGt (fun j hj => hnro j (by simp [hj])) p (by omega)
    have hgs2 : G.length = H.length + 1 := hGl
    have h2s : hget G2 sb = some ⟨[tv, .map (some mb), .map (some ub), .slice (some ⟨kb, 0, none⟩) n n, tdv], 88, none⟩ := (hk2 sb (by omega) hsF).trans hGs
    have h2k := (hk2 kb (by omega) hkF).trans hGk
    have l2s := hget_lt h2s
    have hns : nro ≤ sb := hnro sb (by simp)
    have lGs := hget_lt hGs
    have r1 : List.range 1 = [0] := rfl
    rw [← hG]
    clear hG
    (refine aoo fun K hK => ?_; simp (disch := first | omega | (simp only [lnS]; try omega)) [-getElem?_pos, -getElem?_neg, hGs, lGs, h2s, l2s, -notTuple, htv.1, htn.1, hn2, hc2, -xappend, hap, r1]; refine hK _ _ ?_; clear hK K)
    have hns2 : sb < G2.length := l2s
    refine ⟨[], _, rfl, rfl, rfl, by simp; omega, fun j hj hn => ?_, sb :: kb :: [G.length + 1], ⟨v', [G.length + 1], rfl, hget_set_eq l2s, ?_, by simp [hsl], ht2.low (fun j hj => ?_), hne, by simp; omega, by simp; omega, ?_⟩, fun j hj => ?_⟩
    ·simp only [List.mem_cons, not_or] at hn
     rw [hget_set_ne (Ne.symm hn.1), hk2 j (by omega) hn.2.2]
     exact hGj j hj hn.2.1
    ·rw [hget_set_ne hne]
     exact h2k
    ·rw [hget_set_ne (by rw [List.mem_singleton.1 hj]; omega)]
    ·have e : lrn s k = (s.1.set p true, s.2 ++ [p]) := by
      unfold lrn
      rw [hc]
      exact if_pos ⟨by omega, hkw⟩
     rw [e] at hmu
     exact Nat.le_trans (Nat.le_of_eq hmu) hm
    ·simp only [List.mem_cons, List.not_mem_nil, or_false] at hj ⊢
     rcases hj with h | h | h
     ·exact .inl (.inl h)
     ·exact .inl (.inr (.inl h))
     ·exact .inr (by omega)
  ·have hf : kw s.1 p = false := by
    cases h : kw s.1 p with
    | false => rfl
    | true => have := kw_lt h; omega
   rw [if_neg (fun c => by have := c.1; omega)]
   refine ac_of_aw Tryd.func41 rfl Tryd.ntmps41 Tryd.results41 (by simp) ?_
   (refine aw_seq (aoo fun K hK => ?_); simp (disch := first | omega | (simp only [lnS]; try omega)) [-getElem?_pos, -getElem?_neg, htk]; refine hK _ _ ?_; clear hK K)
   refine aw_seq (aoo fun K hK => ?_)
   simp (disch := first | omega | (simp only [lnS]; try omega)) [-getElem?_pos, -getElem?_neg, htk]
   refine ⟨by kernel_rfl, ac_of_rc (hpl _) (by simp [pv_iv, pv_int, pv_bool, pv_string, pv_tup2, pv_tup3, iv_plain, p2_int, p2_bool, p2_string]) ?_⟩
   try simp (disch := first | omega | (simp only [lnS]; try omega)) [-getElem?_pos, -getElem?_neg]
   refine hK _ _ ?_; clear hK K
   (refine aw_seq (aoo fun K hK => ?_); simp (disch := first | omega | (simp only [lnS]; try omega)) [-getElem?_pos, -getElem?_neg, hlt, hsb, hgs, -notTuple, htv.1, htn.1]; refine hK _ _ ?_; clear hK K)
   refine aw_f (by (first | (simp; done) | (simp; omega))) (by kernel_rfl) ?_
   refine aw_skip ?_
   exact ⟨[], _, rfl, rfl, hsame _ (Low.push (Nat.le_refl _) _)⟩
end
section
def tmBox : ByteArray := ⟨#[98, 111, 120]⟩
def MarkQ (H : AH) (b : Nat) (F : List Nat) (T : List TermD) (s : ByteArray) (v' : Value) (H' : AH) : Prop :=
 if s.size = 32 then v' = .agg (iv .u8 (nums s)).toArray ∧ Low H.length H H' else TermQ H b F T ⟨2, tmBox ++ s, []⟩ v' H'
theorem mark_ac {nro : Nat} {γ : Nat → Option Nat} {H : AH} (hp : Pw γ H) {b : Nat} {F : List Nat} {T : List TermD} (h : Tbl H b F T) (hnro : ∀ j ∈ F, nro ≤ j) (hnH : nro ≤ H.length) {s : ByteArray} (hs1 : s.size ≤ 10000000) (hT : T.length ≤ 1000000) :
  AC Tryd.prog nro γ 26 #[.pointer (some ⟨b, 0, none⟩), .string s] H (MarkQ H b F T s) := by
 unfold MarkQ
 have hs9 : s.size ≤ 9223372036854775807 := by omega
 by_cases h32 : s.size = 32
 ·have hb32 : ((s.size : Int) == 32) = true := by rw [h32]; rfl
  have hi32 : (s.size : Int) = 32 := by rw [h32]; rfl
  have ln : (nums s).length = 32 := by rw [nums_len, h32]
  have htn : (iv .u8 (nums s)).take 32 = iv .u8 (nums s) := List.take_of_length_le (by simp [ln])
  have hsn : setR (iv .u8 (zl 32)) 0 (iv .u8 (nums s)) = iv .u8 (nums s) := setR_all _ _ (by simp [ln])
  refine ac_of_aw Tryd.func26 rfl Tryd.ntmps26 Tryd.results26 (by simp) ?_
  (refine aw_seq (aoo fun K hK => ?_); simp (disch := first | omega | (simp only [lnS]; try omega)) []; refine hK _ _ ?_; clear hK K)
  refine aw_seq (aw_seq ?_)
  (refine aoo fun K hK => ?_; simp (disch := first | omega | (simp only [lnS]; try omega)) [hs9, hi32, hb32]; refine hK _ _ ?_; clear hK K)
  refine aw_t (by (first | (simp; done) | (simp; omega))) (by kernel_rfl) ?_
  refine aw_seq (aoo fun K hK => ?_)
  simp (disch := first | omega | (simp only [lnS]; try omega)) [h32, ln, htn, hsn]
  refine hK _ _ ?_; clear hK K
  (refine aw_ret ?_; simp (disch := first | omega | (simp only [lnS]; try omega)) [thenQ_ret, scopeQ_ret, inBlockQ_ret, RQ, resL, resV, h32, ln, htn])
  exact Low.push (Nat.le_refl _) _
 ·have hb32 : ((s.size : Int) == 32) = false := by rw [beq_eq_false_iff_ne]; omega
  have hi32 : ¬ (s.size : Int) = 32 := by omega
  have hba : (⟨#[98, 111, 120]⟩ : ByteArray).size + s.size ≤ 9223372036854775807 := by show 3 + s.size ≤ _; omega
  have hbs : (tmBox ++ s).size ≤ 100000000 := by rw [ByteArray.size_append]; show 3 + s.size ≤ _; omega
  have hbx : (⟨#[98, 111, 120]⟩ : ByteArray) ++ s = tmBox ++ s := rfl
  have hc := hash_ac (nro := nro) (γ := γ) (hp.push [some ⟨iv .u8 (zl 32), 41, none⟩]) (h.push [some ⟨iv .u8 (zl 32), 41, none⟩]) hnro (by simp; omega) (s := tmBox ++ s) (ks := []) (wf_0 (.inr rfl) hbs) (v := .slice none 0 0) (fun G _ _ => ks_nil G) hT
  generalize tmBox ++ s = t at *
  refine ac_of_aw Tryd.func26 rfl Tryd.ntmps26 Tryd.results26 (by simp) ?_
  (refine aw_seq (aoo fun K hK => ?_); simp (disch := first | omega | (simp only [lnS]; try omega)) []; refine hK _ _ ?_; clear hK K)
  refine aw_seq (aw_seq ?_)
  (refine aoo fun K hK => ?_; simp (disch := first | omega | (simp only [lnS]; try omega)) [hs9, hi32, hb32]; refine hK _ _ ?_; clear hK K)
  refine aw_f (by (first | (simp; done) | (simp; omega))) (by kernel_rfl) ?_
  refine aw_skip (aw_seq ?_)
  refine aoo fun K hK => ?_
  simp (disch := first | omega | (simp only [lnS]; try omega)) [hs9, hba, hbx]
  refine ⟨by kernel_rfl, AC.mono hc ?_⟩
  intro v' G hQ
  obtain ⟨N, _, lN, ht, hs, rfl, hlt, hg, hfin⟩ := hQ.lay h.bound
  try simp (disch := first | omega | (simp only [lnS]; try omega)) [hnH, lN, ht, hs, hg, hlt]
  refine hK _ _ ?_; clear hK K
  (refine aw_ret ?_; simp (disch := first | omega | (simp only [lnS]; try omega)) [thenQ_ret, scopeQ_ret, inBlockQ_ret, RQ, resL, resV, lN, ht, hlt, h32])
  exact hfin _
end
section
theorem TermQ.layG {H H2 G : AH} {b : Nat} {F : List Nat} {T : List TermD} {x : TermD} {v : Value} (h : TermQ H2 b F T x v G) (lw : Low H.length H H2) (hF : ∀ j ∈ F, j < H.length) {r : Nat} (hr0 : H.length ≤ r) (hr : hget H2 r = some ⟨iv .u8 (zl 32), 41, none⟩) : ∃ N : List Int, N = nmL (nameT x T) ∧ N.length = 32 ∧ (iv .u8 N).take 32 = iv .u8 N ∧ setR (iv .u8 (zl 32)) 0 (iv .u8 N) = iv .u8 N ∧ v = .agg (iv .u8 N).toArray ∧ r < G.length ∧ hget G r = some ⟨iv .u8 (zl 32), 41, none⟩ ∧ ∀ X : Option Blk, TermQ H b F T x (.agg (iv .u8 N).toArray) (G.set r X) := by
 obtain ⟨h0, h2, h3, F', h4, h5⟩ := h
 have hl := hget_lt hr
 have hn : r ∉ F := fun e => by have := hF _ e; omega
 have hg := (h3 r hl hn).trans hr
 have hle := lw.2
 refine ⟨nmL (nameT x T), rfl, rfl, rfl, ?_, h0, hget_lt hg, hg, fun X => ⟨rfl, by simp; omega, fun j hj hjn => ?_, F', h4.low (fun j hj => hget_set_ne ?_) (by simp), fun j hj => ?_⟩⟩
 ·exact setR_all _ _ (by simp [nmL_len])
 ·rw [hget_set_ne (by omega), h3 j (by omega) hjn, lw.1 j hj]
 ·rcases h5 j hj with h | h
  ·have := hF j h; omega
  ·omega
 ·rcases h5 j hj with h | h
  ·exact .inl h
  ·exact .inr (by omega)
theorem hget_at2 (G : AH) (R R2 : Option Blk) : hget (G ++ [R, R2]) (G.length + 1) = R2 := by rw [hget_app]; rfl
theorem wf_two {n : Nat} (hn : n = 4 ∨ n = 5) {k l : List Int} (hk : k.length = 32) (hb : By k) (hl : l.length = 32) (hbl : By l) : TermD.Wf ⟨n, ⟨#[]⟩, [k, l]⟩ := by
 refine ⟨(by show n ≤ 6; omega), (by show (0 : Nat) ≤ _; omega), fun y hy => ?_, fun y hy => ?_, (by show 2 ≤ 1000000; omega), fun h => ?_, fun h => rfl, fun h => ?_⟩
 ·rcases List.mem_cons.1 hy with rfl | hy
  ·exact hk
  ·rw [List.mem_singleton.1 hy]; exact hl
 ·rcases List.mem_cons.1 hy with rfl | hy
  ·exact hb
  ·rw [List.mem_singleton.1 hy]; exact hbl
 all_goals
  have h : n = _ := h
  omega
def agreeT (T : List TermD) (s p : List Int) : TermD := match findT T p with
 | some x => if x.kind = 3 then (if 0 < cmpL s (x.keys.getD 0 []) then ⟨4, ⟨#[]⟩, [x.keys.getD 0 [], s]⟩ else ⟨4, ⟨#[]⟩, [s, x.keys.getD 0 []]⟩) else ⟨5, ⟨#[]⟩, [s, p]⟩
 | none => ⟨5, ⟨#[]⟩, [s, p]⟩
def AgreeQ (H : AH) (b : Nat) (F : List Nat) (T : List TermD) (s p : List Int) (v' : Value) (H' : AH) : Prop :=
 (p = zl 32 ∧ v' = .tuple #[.agg (iv .u8 (zl 32)).toArray, .bool false] ∧ Low H.length H H') ∨ (p ≠ zl 32 ∧ ∃ v1, v' = .tuple #[v1, .bool true] ∧ TermQ H b F T (agreeT T s p) v1 H')
theorem row2 {C a b : List Value} (h : C.length = 64) (ha : a.length = 32) (hb : b.length = 32) : setR (setR C 0 a) 32 b = a ++ b := by
 have e := setR_app a b C 0
 rw [Nat.zero_add, ha] at e
 rw [← e, setR_all _ _ (by rw [List.length_append]; omega)]
theorem agree0_ac {nro : Nat} {γ : Nat → Option Nat} {H : AH} {b : Nat} {F : List Nat} {T : List TermD} (hnH : nro ≤ H.length) {s : List Int} (hs : s.length = 32) : AC Tryd.prog nro γ 54 #[.pointer (some ⟨b, 0, none⟩), .agg (iv .u8 s).toArray, .agg (iv .u8 (zl 32)).toArray] H (AgreeQ H b F T s (zl 32)) := by
 have hts : (iv .u8 s).take 32 = iv .u8 s := List.take_of_length_le (by simp [hs])
 have hz : (List.take 32 (zl 32) == zl 32) = true := by decide
 have hz2 : setR (iv .u8 (zl 32)) 0 (iv .u8 (zl 32)) = iv .u8 (zl 32) := rfl
 refine ac_of_aw Tryd.func54 rfl Tryd.ntmps54 Tryd.results54 (by simp) ?_
 (refine aw_seq (aoo fun K hK => ?_); simp (disch := first | omega | (simp only [lnS]; try omega)) [-getElem?_pos, -getElem?_neg, hts]; refine hK _ _ ?_; clear hK K)
 refine aw_seq (aw_seq ?_)
 (refine aoo fun K hK => ?_; simp (disch := first | omega | (simp only [lnS]; try omega)) [-getElem?_pos, -getElem?_neg, hz]; refine hK _ _ ?_; clear hK K)
 refine aw_t (by (first | (simp; done) | (simp; omega))) (by kernel_rfl) ?_
 (refine aw_seq (aoo fun K hK => ?_); simp (disch := first | omega | (simp only [lnS]; try omega)) [-getElem?_pos, -getElem?_neg, hz2]; refine hK _ _ ?_; clear hK K)
 (refine aw_ret ?_; simp (disch := first | omega | (simp only [lnS]; try omega)) [-getElem?_pos, -getElem?_neg, thenQ_ret, scopeQ_ret, inBlockQ_ret, RQ, resL, resV])
 exact .inl ⟨rfl, rfl, Low.push (Nat.le_refl _) _⟩
theorem agreeN_ac {nro : Nat} {γ : Nat → Option Nat} {H : AH} (hpw : Pw γ H) {b : Nat} {F : List Nat} {T : List TermD} (h : Tbl H b F T) (hnro : ∀ j ∈ F, nro ≤ j) (hnH : nro ≤ H.length) {s p : List Int} (hs : s.length = 32) (hbs : By s) (hp : p.length = 32) (hbp : By p) (hp0 : p ≠ zl 32) (hT : T.length ≤ 1000000)
  (hk : ∀ x, findT T p = some x → x.kind ≠ 3) :
  AC Tryd.prog nro γ 54 #[.pointer (some ⟨b, 0, none⟩), .agg (iv .u8 s).toArray, .agg (iv .u8 p).toArray] H (AgreeQ H b F T s p) := by
 have hag : agreeT T s p = ⟨5, ⟨#[]⟩, [s, p]⟩ := by
  unfold agreeT
  cases hf : findT T p with
  | none => rfl
  | some x => simp only [if_neg (hk x hf)]
 have hFl := h.bound
 have hT0 := h
 obtain ⟨mb, tv, Ft, Fk, L, rfl, hL, rfl, _⟩ := h
 have hts : (iv .u8 s).take 32 = iv .u8 s := List.take_of_length_le (by simp [hs])
 have htp : (iv .u8 p).take 32 = iv .u8 p := List.take_of_length_le (by simp [hp])
 have hpb : (p == zl 32) = false := by rw [beq_eq_false_iff_ne]; exact hp0
 have p1 : plain1 (.slice none 0 0) = true := rfl
 have r3 : List.range 3 = [0, 1, 2] := rfl
 have hf := fun (N : AH) => find_ac (nro := nro) (γ := γ) (hL.low (G := H ++ N) (fun j hj => hget_left (hFl j hj))) hp hbp
 have hcase := findV_T L p
 have hrow : setR (setR (List.map (fun j => (iv .u8 (zl 32))[j % 32]?.getD undef) (List.range 64)) 0 (iv .u8 s)) 32 (iv .u8 p) = iv .u8 s ++ iv .u8 p := row2 (by simp) (by simp [hs]) (by simp [hp])
 have hc : ∀ (G : AH) (R : Option Blk), Low H.length H G → hget G (H.length + 2) = some ⟨iv .u8 (zl 32), 41, none⟩ → hget (G ++ [R, some ⟨iv .u8 s ++ iv .u8 p, 41, some 32⟩]) (G.length + 1) = some ⟨iv .u8 s ++ iv .u8 p, 41, some 32⟩ → AC Tryd.prog nro γ 46 #[.pointer (some ⟨b, 0, none⟩), .int .i64 5, .string ⟨#[]⟩, .slice (some ⟨G.length + 1, 0, none⟩) 2 2] (G ++ [R, some ⟨iv .u8 s ++ iv .u8 p, 41, some 32⟩])
   (fun v' G3 => ∃ N : List Int, N = nmL (nameT ⟨5, ⟨#[]⟩, [s, p]⟩ (L.map (·.2))) ∧ N.length = 32 ∧ (iv .u8 N).take 32 = iv .u8 N ∧ setR (iv .u8 (zl 32)) 0 (iv .u8 N) = iv .u8 N ∧ v' = .agg (iv .u8 N).toArray ∧ H.length + 2 < G3.length ∧ hget G3 (H.length + 2) = some ⟨iv .u8 (zl 32), 41, none⟩ ∧ ∀ X : Option Blk, TermQ H b (b :: mb :: (Ft ++ Fk)) (L.map (·.2)) ⟨5, ⟨#[]⟩, [s, p]⟩ (.agg (iv .u8 N).toArray) (G3.set (H.length + 2) X)) := by
  intro G R lwG gz g2
  have lw2 : Low H.length H (G ++ [R, some ⟨iv .u8 s ++ iv .u8 p, 41, some 32⟩]) := ⟨fun j hj => (hget_left (by have := lwG.2; omega)).trans (lwG.1 j hj), by have := lwG.2; simp; omega⟩
  have gz2 := (hget_left (L := [R, some ⟨iv .u8 s ++ iv .u8 p, 41, some 32⟩]) (hget_lt gz)).trans gz
  have hlg := lwG.2
  generalize G ++ [R, some ⟨iv .u8 s ++ iv .u8 p, 41, some 32⟩] = G2 at *
  refine (term_ac (nro := nro) (γ := γ) (hpw.low lw2) (hT0.low (fun j hj => lw2.1 j (hFl j hj)) lw2.2) hnro (by have := lw2.2; omega) (wf_two (.inr rfl) hs hbs hp hbp) (v := .slice (some ⟨G.length + 1, 0, none⟩) 2 2) (fun D _ hj => keys2 hs hp ((hj _ (hget_lt g2) (fun e => by have := hFl _ e; omega)).trans g2)) hT).mono fun v' G3 hQ => ?_
  exact hQ.layG lw2 hFl (by omega) gz2
 generalize findV L p = fv at *
 rcases hcase with ⟨⟨kv, x⟩, hm, rfl, hft⟩ | ⟨rfl, hft⟩
 ·have hkn := hL.key_nt hm
  have hk3 : x.kind ≠ 3 := hk x hft
  have hk3b : ((x.kind : Int) == 3) = false := by rw [beq_eq_false_iff_ne]; omega
  have hk3i : ¬ (x.kind : Int) = 3 := by omega
  refine ac_of_aw Tryd.func54 rfl Tryd.ntmps54 Tryd.results54 (by simp) ?_
  (refine aw_seq (aoo fun K hK => ?_); simp (disch := first | omega | (simp only [lnS]; try omega)) [-getElem?_pos, -getElem?_neg, hts, htp]; refine hK _ _ ?_; clear hK K)
  refine aw_seq (aw_seq ?_)
  (refine aoo fun K hK => ?_; simp (disch := first | omega | (simp only [lnS]; try omega)) [-getElem?_pos, -getElem?_neg, htp, hp0, hpb]; refine hK _ _ ?_; clear hK K)
  refine aw_f (by (first | (simp; done) | (simp; omega))) (by kernel_rfl) ?_
  refine aw_skip (aw_seq ?_)
  refine aoo fun K hK => ?_
  simp (disch := first | omega | (simp only [lnS]; try omega)) [-getElem?_pos, -getElem?_neg, htp]
  refine ⟨by kernel_rfl, AC.mono (hf _) ?_⟩
  rintro _ G ⟨rfl, lw⟩
  have hGl := lw.2
  rw [List.length_append] at lw hGl
  have gs : hget G H.length = some ⟨iv .u8 s, 41, none⟩ := (lw.1 _ (by simp)).trans (by rw [hget_app0]; rfl)
  have gp : hget G (H.length + 1) = some ⟨iv .u8 p, 41, none⟩ := (lw.1 _ (by simp)).trans (by rw [hget_app]; rfl)
  have gz : hget G (H.length + 2) = some ⟨iv .u8 (zl 32), 41, none⟩ := (lw.1 _ (by simp)).trans (by rw [hget_app]; rfl)
  have ls := hget_lt gs
  have lp := hget_lt gp
  have lz := hget_lt gz
  have lwH : Low H.length H G := ⟨fun j hj => (lw.1 j (by omega)).trans (hget_left hj), by omega⟩
  unfold tmRow
  try simp (disch := first | omega | (simp only [lnS]; try omega)) [-getElem?_pos, -getElem?_neg, -notTuple, hkn.1, hkn.2, p1, r3]
  refine hK _ _ ?_; clear hK K
  refine aw_seq (aw_seq ?_)
  refine aoo fun K hK => ?_
  simp (disch := first | omega | (simp only [lnS]; try omega)) [-getElem?_pos, -getElem?_neg, hk3b, hk3i]
  refine hK _ _ ?_; clear hK K
  refine aw_t (by (first | (simp; done) | (simp; omega))) (by kernel_rfl) ?_
  refine aw_seq (aoo fun K hK => ?_)
  simp (disch := first | omega | (simp only [lnS]; try omega)) [-getElem?_pos, -getElem?_neg, gs, gp, ls, lp, hts, htp, hrow]
  refine ⟨by kernel_rfl, AC.mono (hc _ _ lwH gz (hget_at2 _ _ _)) ?_⟩
  intro v' G3 hQ
  obtain ⟨N, _, lN, ht, hse, rfl, hlt, hg, hfin⟩ := hQ
  have hn2 : nro ≤ H.length + 2 := by omega
  try simp (disch := first | omega | (simp only [lnS]; try omega)) [-getElem?_pos, -getElem?_neg, hn2, lN, ht, hse, hg, hlt]
  refine hK _ _ ?_; clear hK K
  (refine aw_ret ?_; simp (disch := first | omega | (simp only [lnS]; try omega)) [-getElem?_pos, -getElem?_neg, thenQ_ret, scopeQ_ret, inBlockQ_ret, RQ, resL, resV, lN, ht, hlt])
  exact .inr ⟨hp0, _, rfl, hag ▸ hfin _⟩
 ·unfold zkey at *
  refine ac_of_aw Tryd.func54 rfl Tryd.ntmps54 Tryd.results54 (by simp) ?_
  (refine aw_seq (aoo fun K hK => ?_); simp (disch := first | omega | (simp only [lnS]; try omega)) [-getElem?_pos, -getElem?_neg, hts, htp]; refine hK _ _ ?_; clear hK K)
  refine aw_seq (aw_seq ?_)
  (refine aoo fun K hK => ?_; simp (disch := first | omega | (simp only [lnS]; try omega)) [-getElem?_pos, -getElem?_neg, htp, hp0, hpb]; refine hK _ _ ?_; clear hK K)
  refine aw_f (by (first | (simp; done) | (simp; omega))) (by kernel_rfl) ?_
  refine aw_skip (aw_seq ?_)
  refine aoo fun K hK => ?_
  simp (disch := first | omega | (simp only [lnS]; try omega)) [-getElem?_pos, -getElem?_neg, htp]
  refine ⟨by kernel_rfl, AC.mono (hf _) ?_⟩
  rintro _ G ⟨rfl, lw⟩
  have hGl := lw.2
  rw [List.length_append] at lw hGl
  have gs : hget G H.length = some ⟨iv .u8 s, 41, none⟩ := (lw.1 _ (by simp)).trans (by rw [hget_app0]; rfl)
  have gp : hget G (H.length + 1) = some ⟨iv .u8 p, 41, none⟩ := (lw.1 _ (by simp)).trans (by rw [hget_app]; rfl)
  have gz : hget G (H.length + 2) = some ⟨iv .u8 (zl 32), 41, none⟩ := (lw.1 _ (by simp)).trans (by rw [hget_app]; rfl)
  have ls := hget_lt gs
  have lp := hget_lt gp
  have lz := hget_lt gz
  have lwH : Low H.length H G := ⟨fun j hj => (lw.1 j (by omega)).trans (hget_left hj), by omega⟩
  try simp (disch := first | omega | (simp only [lnS]; try omega)) [-getElem?_pos, -getElem?_neg, p1, r3]
  refine hK _ _ ?_; clear hK K
  refine aw_seq (aw_seq ?_)
  refine aoo fun K hK => ?_
  simp (disch := first | omega | (simp only [lnS]; try omega)) [-getElem?_pos, -getElem?_neg]
  refine hK _ _ ?_; clear hK K
  refine aw_t (by (first | (simp; done) | (simp; omega))) (by kernel_rfl) ?_
  refine aw_seq (aoo fun K hK => ?_)
  simp (disch := first | omega | (simp only [lnS]; try omega)) [-getElem?_pos, -getElem?_neg, gs, gp, ls, lp, hts, htp, hrow]
  refine ⟨by kernel_rfl, AC.mono (hc _ _ lwH gz (hget_at2 _ _ _)) ?_⟩
  intro v' G3 hQ
  obtain ⟨N, _, lN, ht, hse, rfl, hlt, hg, hfin⟩ := hQ
  have hn2 : nro ≤ H.length + 2 := by omega
  try simp (disch := first | omega | (simp only [lnS]; try omega)) [-getElem?_pos, -getElem?_neg, hn2, lN, ht, hse, hg, hlt]
  refine hK _ _ ?_; clear hK K
  (refine aw_ret ?_; simp (disch := first | omega | (simp only [lnS]; try omega)) [-getElem?_pos, -getElem?_neg, thenQ_ret, scopeQ_ret, inBlockQ_ret, RQ, resL, resV, lN, ht, hlt])
  exact .inr ⟨hp0, _, rfl, hag ▸ hfin _⟩
end
section
theorem TermQ.down {H H2 G A : AH} {b : Nat} {F : List Nat} {T : List TermD} {x : TermD} {v v2 : Value} (h : TermQ H2 b F T x v G) (lw : Low H.length H H2) (hF : ∀ j ∈ F, j < H.length) (hv : v2 = v) (hA : G.length ≤ A.length) (hk : ∀ j, j < G.length → hget A j = hget G j) : TermQ H b F T x v2 A := by
 subst hv
 obtain ⟨h0, h2, h3, F', h4, h5⟩ := h
 have hle := lw.2
 refine ⟨h0, by omega, fun j hj hn => (hk j (by omega)).trans ((h3 j (by omega) hn).trans (lw.1 j hj)), F', h4.low (fun j hj => hk j (h4.bound j hj)) hA, fun j hj => ?_⟩
 rcases h5 j hj with h | h
 ·exact .inl h
 ·exact .inr (by omega)
def SealQ (H : AH) (b : Nat) (F : List Nat) (T : List TermD) (x : TermD) (v' : Value) (H' : AH) : Prop :=
 v' = .string (strOfNums (nmL (nameT x T))) ∧ TermQ H b F T x (.agg (iv .u8 (nmL (nameT x T))).toArray) H'
theorem wf_seal {s : ByteArray} (hs : s.size ≤ 100000000) {k y : List Int} {ks : List (List Int)} (hk : k.length = 32) (hbk : By k) (hy : y.length = 32) (hby : By y) (hks : ∀ z ∈ ks, z.length = 32 ∧ By z) (hm : ks.length ≤ 999998) : TermD.Wf ⟨6, s, k :: y :: ks⟩ := by
 refine ⟨(by show 6 ≤ 6; omega), hs, fun z hz => ?_, fun z hz => ?_, (by show ks.length + 2 ≤ 1000000; omega), fun h => (by cases h), fun h => (by cases h), fun _ => (by show 2 ≤ ks.length + 2; omega)⟩
 ·simp only [List.mem_cons] at hz
  rcases hz with rfl | rfl | hz
  ·exact hk
  ·exact hy
  ·exact (hks z hz).1
 ·simp only [List.mem_cons] at hz
  rcases hz with rfl | rfl | hz
  ·exact hbk
  ·exact hby
  ·exact (hks z hz).2
theorem seal_ac {nro : Nat} {γ : Nat → Option Nat} {H : AH} (hpw : Pw γ H) {b : Nat} {F : List Nat} {T : List TermD} (h : Tbl H b F T) (hnro : ∀ j ∈ F, nro ≤ j) (hnH : nro ≤ H.length) {k y : List Int} (hk : k.length = 32) (hy : y.length = 32) {s : ByteArray} {ks : List (List Int)} (hx : TermD.Wf ⟨6, s, k :: y :: ks⟩) {v : Value} (hK : KsV H v ks) (hT : T.length ≤ 1000000) :
  AC Tryd.prog nro γ 27 #[.pointer (some ⟨b, 0, none⟩), .agg (iv .u8 k).toArray, .agg (iv .u8 y).toArray, .string s, v] H (SealQ H b F T ⟨6, s, k :: y :: ks⟩) := by
 unfold SealQ
 have hFl := h.bound
 have hv := val_nt hK
 have k32 : K32 ks := fun z hz => hx.k32 z (by simp [hz])
 have hkm : ks.length ≤ 1000000 := by have := hx.many; simp at this; omega
 have htk : (iv .u8 k).take 32 = iv .u8 k := List.take_of_length_le (by simp [hk])
 have hty : (iv .u8 y).take 32 = iv .u8 y := List.take_of_length_le (by simp [hy])
 have hrow : setR (setR (List.map (fun j => (iv .u8 (zl 32))[j % 32]?.getD undef) (List.range 64)) 0 (iv .u8 k)) 32 (iv .u8 y) = iv .u8 k ++ iv .u8 y := row2 (by simp) (by simp [hk]) (by simp [hy])
 obtain ⟨N4, hN4⟩ : ∃ N4 : AH, N4 = [some ⟨iv .u8 k, 41, none⟩, some ⟨iv .u8 y, 41, none⟩, some ⟨iv .u8 k ++ iv .u8 y, 41, some 32⟩, some ⟨[.slice (some ⟨H.length + 2, 0, none⟩) 2 2, v], 34, some 1⟩] := ⟨_, rfl⟩
 have g2 : hget (H ++ N4) (H.length + 2) = some ⟨iv .u8 k ++ iv .u8 y, 41, some 32⟩ := by rw [hget_app, hN4]; rfl
 have g3 : hget (H ++ N4) (H.length + 3) = some ⟨[.slice (some ⟨H.length + 2, 0, none⟩) 2 2, v], 34, some 1⟩ := by rw [hget_app, hN4]; rfl
 have hlN : (H ++ N4).length = H.length + 4 := by rw [hN4]; simp
 have hcc := concatK_ac (nro := nro) (γ := γ) (H := H ++ N4) (v := undef) (j := H.length + 3) (xs := [.slice (some ⟨H.length + 2, 0, none⟩) 2 2, v]) (L := [[k, y], ks]) (fun l hl => by
   simp only [List.mem_cons, List.not_mem_nil, or_false] at hl
   rcases hl with rfl | rfl
   ·intro z hz
    simp only [List.mem_cons, List.not_mem_nil, or_false] at hz
    rcases hz with rfl | rfl
    ·exact hk
    ·exact hy
   ·exact k32) g3 rfl (fun i x c hx1 hc1 => by
   match i, hx1, hc1 with
   | 0, hx1, hc1 =>
    cases hx1
    cases hc1
    exact (keys2 hk hy g2).part (fun z hz => by
     simp only [List.mem_cons, List.not_mem_nil, or_false] at hz
     rcases hz with rfl | rfl
     ·exact hk
     ·exact hy)
   | 1, hx1, hc1 =>
    cases hx1
    cases hc1
    have hK2 : KsV (H ++ N4) v ks := CD.Val.low (fun j hj => hget_left hj) hK
    exact hK2.part k32
   | i + 2, hx1, hc1 => simp at hx1) (by simp [sumK]; omega) (by simp) (by omega)
 have hfl : [[k, y], ks].flatten = k :: y :: ks := by simp
 rw [hfl] at hcc
 rw [hN4] at hcc
 have r2 : List.range 2 = [0, 1] := rfl
 have p1 : plain1 (.slice none 0 0) = true := rfl
 refine ac_of_aw Tryd.func27 rfl Tryd.ntmps27 Tryd.results27 (by simp) ?_
 (refine aw_seq (aoo fun K hK => ?_); simp (disch := first | omega | (simp only [lnS]; try omega)) [-getElem?_pos, -getElem?_neg, htk, hty]; refine hK _ _ ?_; clear hK K)
 refine aw_seq (aoo fun K hK => ?_)
 simp (disch := first | omega | (simp only [lnS]; try omega)) [-getElem?_pos, -getElem?_neg, htk, hty, hrow, r2, p1, -notTuple, hv.1, hv.2]
 refine ⟨by kernel_rfl, AC.mono hcc ?_⟩
 rintro v1 G ⟨ho, hlG, hkG⟩
 rw [← hN4] at ho hlG hkG
 have lwG : Low H.length H G := ⟨fun j hj => (hkG j (by omega)).trans (hget_left hj), by omega⟩
 have hvn := ho.nt
 have htm := term_ac (nro := nro) (γ := γ) (hpw.low lwG) (h.low (fun j hj => lwG.1 j (hFl j hj)) lwG.2) hnro (by omega) hx (v := v1) (fun D hD hj => by
  have : OwnK (H ++ N4).length D v1 (k :: y :: ks) := ho.low (fun j h1 h2 => hj j h2 (fun e => by have := hFl j e; omega))
  exact own_ksv this hx.k32) hT
 try simp (disch := first | omega | (simp only [lnS]; try omega)) [-getElem?_pos, -getElem?_neg, -notTuple, hvn.1, hvn.2]
 refine ⟨by kernel_rfl, AC.mono htm ?_⟩
 intro v2 G3 hQ
 have hl3 : H.length ≤ G3.length := by have := hQ.2.1; omega
 have hn3 : nro ≤ G3.length := by omega
 have hdn := fun (A : AH) => hQ.down (A := A) lwG hFl rfl
 obtain rfl := hQ.1
 have lN : (nmL (nameT ⟨6, s, k :: y :: ks⟩ T)).length = 32 := rfl
 generalize nmL (nameT ⟨6, s, k :: y :: ks⟩ T) = N at *
 have ht : (iv .u8 N).take 32 = iv .u8 N := List.take_of_length_le (by simp [lN])
 have hs : setR (iv .u8 (zl 32)) 0 (iv .u8 N) = iv .u8 N := setR_all _ _ (by simp [lN])
 try simp (disch := first | omega | (simp only [lnS]; try omega)) [-getElem?_pos, -getElem?_neg, hn3, lN, ht, hs]
 refine hK _ _ ?_; clear hK K
 refine aw_seq ?_
 have hbl := byteList_iv N
 (refine aoo fun K hK => ?_; simp (disch := first | omega | (simp only [lnS]; try omega)) [-getElem?_pos, -getElem?_neg, lN, ht, hbl]; refine hK _ _ ?_; clear hK K)
 (refine aw_ret ?_; simp (disch := first | omega | (simp only [lnS]; try omega)) [-getElem?_pos, -getElem?_neg, thenQ_ret, scopeQ_ret, inBlockQ_ret, RQ, resL, resV])
 exact hdn _ (by simp) (fun j hj => hget_left hj)
end
section
theorem two_ac {nro : Nat} {γ : Nat → Option Nat} {H G2 : AH} (hpw : Pw γ H) {b : Nat} {F : List Nat} {T : List TermD} (h : Tbl H b F T) (hnro : ∀ j ∈ F, nro ≤ j) (hnH : nro ≤ H.length) {n : Nat} (hn : n = 4 ∨ n = 5) {s p : List Int} (hs : s.length = 32) (hbs : By s) (hp : p.length = 32) (hbp : By p) (hT : T.length ≤ 1000000)
  (lw2 : Low H.length H G2) {z q : Nat} (hz : H.length ≤ z) (gz : hget G2 z = some ⟨iv .u8 (zl 32), 41, none⟩) (hq : H.length ≤ q) (g2 : hget G2 q = some ⟨iv .u8 s ++ iv .u8 p, 41, some 32⟩) :
  AC Tryd.prog nro γ 46 #[.pointer (some ⟨b, 0, none⟩), .int .i64 (n : Nat), .string ⟨#[]⟩, .slice (some ⟨q, 0, none⟩) 2 2] G2
   (fun v' G3 => ∃ N : List Int, N = nmL (nameT ⟨n, ⟨#[]⟩, [s, p]⟩ T) ∧ N.length = 32 ∧ (iv .u8 N).take 32 = iv .u8 N ∧ setR (iv .u8 (zl 32)) 0 (iv .u8 N) = iv .u8 N ∧ v' = .agg (iv .u8 N).toArray ∧ z < G3.length ∧ hget G3 z = some ⟨iv .u8 (zl 32), 41, none⟩ ∧ ∀ X : Option Blk, TermQ H b F T ⟨n, ⟨#[]⟩, [s, p]⟩ (.agg (iv .u8 N).toArray) (G3.set z X)) := by
 have hFl := h.bound
 refine (term_ac (nro := nro) (γ := γ) (hpw.low lw2) (h.low (fun j hj => lw2.1 j (hFl j hj)) lw2.2) hnro (by have := lw2.2; omega) (wf_two hn hs hbs hp hbp) (v := .slice (some ⟨q, 0, none⟩) 2 2) (fun D _ hj => keys2 hs hp ((hj _ (hget_lt g2) (fun e => by have := hFl _ e; omega)).trans g2)) hT).mono fun v' G3 hQ => ?_
 exact hQ.layG lw2 hFl hz gz
theorem agreeP_ac {nro : Nat} {γ : Nat → Option Nat} {H : AH} (hpw : Pw γ H) {b : Nat} {F : List Nat} {T : List TermD} (h : Tbl H b F T) (hnro : ∀ j ∈ F, nro ≤ j) (hnH : nro ≤ H.length) {s p : List Int} (hs : s.length = 32) (hbs : By s) (hp : p.length = 32) (hbp : By p) (hp0 : p ≠ zl 32) (hT : T.length ≤ 1000000)
  {y : TermD} (hy : findT T p = some y) (hy3 : y.kind = 3) :
  AC Tryd.prog nro γ 54 #[.pointer (some ⟨b, 0, none⟩), .agg (iv .u8 s).toArray, .agg (iv .u8 p).toArray] H (AgreeQ H b F T s p) := by
 have hag : agreeT T s p = if 0 < cmpL s (y.keys.getD 0 []) then ⟨4, ⟨#[]⟩, [y.keys.getD 0 [], s]⟩ else ⟨4, ⟨#[]⟩, [s, y.keys.getD 0 []]⟩ := by
  unfold agreeT
  rw [hy]
  simp only [if_pos hy3]
 have hFl := h.bound
 have hT0 := h
 obtain ⟨mb, tv, Ft, Fk, L, rfl, hL, rfl, _⟩ := h
 have hts : (iv .u8 s).take 32 = iv .u8 s := List.take_of_length_le (by simp [hs])
 have htp : (iv .u8 p).take 32 = iv .u8 p := List.take_of_length_le (by simp [hp])
 have hss : setR (iv .u8 (zl 32)) 0 (iv .u8 s) = iv .u8 s := setR_all _ _ (by simp [hs])
 have hpb : (p == zl 32) = false := by rw [beq_eq_false_iff_ne]; exact hp0
 have p1 : plain1 (.slice none 0 0) = true := rfl
 have r3 : List.range 3 = [0, 1, 2] := rfl
 have hf := fun (N : AH) => find_ac (nro := nro) (γ := γ) (hL.low (G := H ++ N) (fun j hj => hget_left (hFl j hj))) hp hbp
 have hcase := findV_T L p
 rw [hy] at hcase
 generalize findV L p = fv at *
 obtain ⟨kv, hm, rfl⟩ : ∃ kv, (kv, y) ∈ L ∧ fv = .tuple #[.agg (tmRow kv y).toArray, .bool true] := by
  rcases hcase with ⟨⟨kv, x⟩, hm, e, hft⟩ | ⟨_, hft⟩
  ·cases hft
   exact ⟨kv, hm, e⟩
  ·cases hft
 have hw : y.Wf := hL.wf _ hm
 have hk1 := hw.pub hy3
 obtain ⟨c, hc⟩ : ∃ c, y.keys = [c] := by
  match hh : y.keys, hk1 with
  | [c], _ => exact ⟨c, rfl⟩
 have lc : c.length = 32 := hw.k32 c (by rw [hc]; simp)
 have bc : By c := hw.by_ c (by rw [hc]; simp)
 have htc : (iv .u8 c).take 32 = iv .u8 c := List.take_of_length_le (by simp [lc])
 have hsc : setR (iv .u8 (zl 32)) 0 (iv .u8 c) = iv .u8 c := setR_all _ _ (by simp [lc])
 obtain ⟨jk, rfl, hjk⟩ : ∃ j, kv = .slice (some ⟨j, 0, none⟩) 1 1 ∧ hget H j = some ⟨iv .u8 c, 41, some 32⟩ := by
  obtain ⟨F0, ho, _⟩ := hL.keys _ hm
  have ho : OwnF H kv 41 32 (kr y.keys) F0 := ho
  rw [hc, kr_one] at ho
  rcases ho with ⟨_, e, _⟩ | ⟨j, len, e, hg, hl, _⟩
  ·have := congrArg List.length e
   simp [lc] at this
  ·rw [iv_length, lc] at hl
   have : len = 1 := by omega
   subst this
   exact ⟨j, e, hg⟩
 rw [hc] at hag
 have hg0 : ([c] : List (List Int)).getD 0 [] = c := rfl
 rw [hg0] at hag
 have hk3b : ((y.kind : Int) == 3) = true := by rw [hy3]; rfl
 have hk3i : (y.kind : Int) = 3 := by rw [hy3]; rfl
 have hkn : notTuple (.slice (some ⟨jk, 0, none⟩) 1 1) = true ∧ (Value.slice (some ⟨jk, 0, none⟩) 1 1).cells = #[.slice (some ⟨jk, 0, none⟩) 1 1] := ⟨rfl, rfl⟩
 refine ac_of_aw Tryd.func54 rfl Tryd.ntmps54 Tryd.results54 (by simp) ?_
 (refine aw_seq (aoo fun K hK => ?_); simp (disch := first | omega | (simp only [lnS]; try omega)) [-getElem?_pos, -getElem?_neg, hts, htp]; refine hK _ _ ?_; clear hK K)
 refine aw_seq (aw_seq ?_)
 (refine aoo fun K hK => ?_; simp (disch := first | omega | (simp only [lnS]; try omega)) [-getElem?_pos, -getElem?_neg, htp, hp0, hpb]; refine hK _ _ ?_; clear hK K)
 refine aw_f (by (first | (simp; done) | (simp; omega))) (by kernel_rfl) ?_
 refine aw_skip (aw_seq ?_)
 refine aoo fun K hK => ?_
 simp (disch := first | omega | (simp only [lnS]; try omega)) [-getElem?_pos, -getElem?_neg, htp]
 refine ⟨by kernel_rfl, AC.mono (hf _) ?_⟩
 rintro _ G ⟨rfl, lw⟩
 have hGl := lw.2
 rw [List.length_append] at lw hGl
 have gs : hget G H.length = some ⟨iv .u8 s, 41, none⟩ := (lw.1 _ (by simp)).trans (by rw [hget_app0]; rfl)
 have gp : hget G (H.length + 1) = some ⟨iv .u8 p, 41, none⟩ := (lw.1 _ (by simp)).trans (by rw [hget_app]; rfl)
 have gz : hget G (H.length + 2) = some ⟨iv .u8 (zl 32), 41, none⟩ := (lw.1 _ (by simp)).trans (by rw [hget_app]; rfl)
 have ls := hget_lt gs
 have lp := hget_lt gp
 have lz := hget_lt gz
 have lwH : Low H.length H G := ⟨fun j hj => (lw.1 j (by omega)).trans (hget_left hj), by omega⟩
 have gj : hget G jk = some ⟨iv .u8 c, 41, some 32⟩ := (lwH.1 _ (hget_lt hjk)).trans hjk
 have lj := hget_lt gj
 unfold tmRow
 try simp (disch := first | omega | (simp only [lnS]; try omega)) [-getElem?_pos, -getElem?_neg, -notTuple, hkn.1, hkn.2, p1, r3]
 refine hK _ _ ?_; clear hK K
 refine aw_seq (aw_seq ?_)
 refine aoo fun K hK => ?_
 simp (disch := first | omega | (simp only [lnS]; try omega)) [-getElem?_pos, -getElem?_neg, hk3b, hk3i]
 refine hK _ _ ?_; clear hK K
 refine aw_f (by (first | (simp; done) | (simp; omega))) (by kernel_rfl) ?_
 refine aw_skip (aw_seq ?_)
 (refine aw_plan [] [] [0, 1, 2, 3, 4, 5, 6] 7 2 (by kernel_rfl) (by kernel_rfl) (by kernel_rfl) (fun K hK => ?_)); simp only [sel, List.getElem?_cons_succ, List.getElem?_cons_zero, List.drop_succ_cons, List.drop_zero]; simp (disch := first | omega | (simp only [lnS]; try omega)) [-getElem?_pos, -getElem?_neg, gs, ls, gj, lj, hts, htc, hss, hsc, -notTuple, PL_nil, plainB_lit, PL_cons, PLc_val, PLc_new, stepP_t, stepP_f, stepPC_n, stepPC_s, stepPX_s, stepPX_n, stepPV_n, stepPV_s, stepPA_t, stepPA_c, stepPA_l, stepPN_s, allocOp, reloc_sl, reloc_ptr, List.map_cons, List.map_nil, List.nil_append, List.append_assoc, List.cons_append, Nat.add_assoc]
 refine hK _ _ ?_; clear hK K
 obtain ⟨G4, hG4⟩ : ∃ G4 : AH, G4 = G ++ [some ⟨[.int .i64 3, .string y.text, .slice (some ⟨jk, 0, none⟩) 1 1], 92, none⟩, some ⟨iv .u8 s, 41, none⟩, some ⟨iv .u8 c, 41, none⟩] := ⟨_, rfl⟩
 have g41 : hget G4 (G.length + 1) = some ⟨iv .u8 s, 41, none⟩ := by rw [hG4, hget_app]; rfl
 have g42 : hget G4 (G.length + 2) = some ⟨iv .u8 c, 41, none⟩ := by rw [hG4, hget_app]; rfl
 have g4l : G4.length = G.length + 3 := by rw [hG4]; simp
 have g4j : ∀ j, j < G.length → hget G4 j = hget G j := fun j hj => by rw [hG4, hget_left hj]
 have g4z := (g4j _ lz).trans gz
 have g4lw : ∀ j, j < H.length → hget G4 j = hget H j := fun j hj => (g4j j (by omega)).trans (lwH.1 j hj)
 have l41 := hget_lt g41
 have l42 := hget_lt g42
 rw [← hG4]
 clear hG4 lw
 refine aw_seq (aw_seq ?_)
 by_cases hgt : 0 < cmpL s c
 ·rw [if_pos hgt] at hag
  (refine aw_plan [] [] [0, 1, 2, 3] 4 0 (by kernel_rfl) (by kernel_rfl) (by kernel_rfl) (fun K hK => ?_)); simp only [sel, List.getElem?_cons_succ, List.getElem?_cons_zero, List.drop_succ_cons, List.drop_zero]; simp (disch := first | omega | (simp only [lnS]; try omega)) [-getElem?_pos, -getElem?_neg, g41, g42, l41, l42, hs, lc, PL_nil, plainB_lit, PL_cons, PLc_val, PLc_new, stepP_t, stepP_f, stepPC_n, stepPC_s, stepPX_s, stepPX_n, stepPV_n, stepPV_s, stepPA_t, stepPA_c, stepPA_l, stepPN_s, allocOp, reloc_sl, reloc_ptr, List.map_cons, List.map_nil, List.nil_append, List.append_assoc, List.cons_append, Nat.add_assoc]
  refine PLc_call (v := .int .i64 (cmpL s c)) (by kernel_rfl) (fun N hN => ?_) (by simp [pv_iv, pv_int, pv_bool, pv_string, pv_tup2, pv_tup3, iv_plain, p2_int, p2_bool, p2_string]) ?_
  ·exact (compare_ac (hget_left' g41) (hget_left' g42) hs lc).mono fun v' H' h => h.1
  try simp (disch := first | omega | (simp only [lnS]; try omega)) [-getElem?_pos, -getElem?_neg, hgt, PL_nil, plainB_lit, PL_cons, PLc_val, PLc_new, stepP_t, stepP_f, stepPC_n, stepPC_s, stepPX_s, stepPX_n, stepPV_n, stepPV_s, stepPA_t, stepPA_c, stepPA_l, stepPN_s, allocOp, reloc_sl, reloc_ptr, List.map_cons, List.map_nil, List.nil_append, List.append_assoc, List.cons_append, Nat.add_assoc]
  refine hK _ _ ?_; clear hK K
  refine aw_t (by (first | (simp; done) | (simp; omega))) (by kernel_rfl) ?_
  have hn1 : nro ≤ G.length + 1 := by omega
  have hn22 : nro ≤ G.length + 2 := by omega
  have hcs2 : setR (iv .u8 c) 0 (iv .u8 s) = iv .u8 s := setR_all _ _ (by simp [hs, lc])
  have hsc2 : setR (iv .u8 s) 0 (iv .u8 c) = iv .u8 c := setR_all _ _ (by simp [hs, lc])
  (refine aoo fun K hK => ?_; simp (disch := first | omega | (simp only [lnS]; try omega)) [-getElem?_pos, -getElem?_neg, g41, g42, l41, l42, hts, htc, hn1, hn22, hcs2, hsc2]; refine hK _ _ ?_; clear hK K)
  obtain ⟨G5, hG5⟩ : ∃ G5 : AH, G5 = (G4.set (G.length + 1) (some ⟨iv .u8 c, 41, none⟩)).set (G.length + 2) (some ⟨iv .u8 s, 41, none⟩) := ⟨_, rfl⟩
  have g51 : hget G5 (G.length + 1) = some ⟨iv .u8 c, 41, none⟩ := by rw [hG5, hget_set_ne (by omega), hget_set_eq l41]
  have g52 : hget G5 (G.length + 2) = some ⟨iv .u8 s, 41, none⟩ := by rw [hG5, hget_set_eq (by simp; omega)]
  have g5j : ∀ j, j < G.length → hget G5 j = hget G4 j := fun j hj => by rw [hG5, hget_set_ne (by omega), hget_set_ne (by omega)]
  have g5l : G5.length = G.length + 3 := by rw [hG5]; simp; omega
  have g5z := (g5j _ lz).trans g4z
  have g5lw : ∀ j, j < H.length → hget G5 j = hget H j := fun j hj => (g5j j (by omega)).trans (g4lw j hj)
  have l51 := hget_lt g51
  have l52 := hget_lt g52
  rw [← hG5]
  clear hG5
  have hrow : setR (setR (List.map (fun j => (iv .u8 (zl 32))[j % 32]?.getD undef) (List.range 64)) 0 (iv .u8 c)) 32 (iv .u8 s) = iv .u8 c ++ iv .u8 s := row2 (by simp) (by simp [lc]) (by simp [hs])
  have htw := two_ac (nro := nro) (γ := γ) (G2 := G5 ++ [some ⟨iv .u8 c ++ iv .u8 s, 41, some 32⟩]) hpw hT0 hnro hnH (n := 4) (.inl rfl) lc bc hs hbs hT ⟨fun j hj => (hget_left (by omega)).trans (g5lw j hj), by simp; omega⟩ (z := H.length + 2) (q := G5.length) (by omega) ((hget_left (by omega)).trans g5z) (by omega) (by rw [hget_app0]; rfl)
  refine aw_seq (aoo fun K hK => ?_)
  simp (disch := first | omega | (simp only [lnS]; try omega)) [-getElem?_pos, -getElem?_neg, g51, g52, l51, l52, hts, htc, hrow]
  refine ⟨by kernel_rfl, AC.mono htw ?_⟩
  intro v' G3 hQ
  obtain ⟨N, _, lN, ht, hse, rfl, hlt, hg, hfin⟩ := hQ
  have hn2 : nro ≤ H.length + 2 := by omega
  try simp (disch := first | omega | (simp only [lnS]; try omega)) [-getElem?_pos, -getElem?_neg, hn2, lN, ht, hse, hg, hlt]
  refine hK _ _ ?_; clear hK K
  (refine aw_ret ?_; simp (disch := first | omega | (simp only [lnS]; try omega)) [-getElem?_pos, -getElem?_neg, thenQ_ret, scopeQ_ret, inBlockQ_ret, RQ, resL, resV, lN, ht, hlt])
  exact .inr ⟨hp0, _, rfl, hag ▸ hfin _⟩
 ·rw [if_neg hgt] at hag
  (refine aw_plan [] [] [0, 1, 2, 3] 4 0 (by kernel_rfl) (by kernel_rfl) (by kernel_rfl) (fun K hK => ?_)); simp only [sel, List.getElem?_cons_succ, List.getElem?_cons_zero, List.drop_succ_cons, List.drop_zero]; simp (disch := first | omega | (simp only [lnS]; try omega)) [-getElem?_pos, -getElem?_neg, g41, g42, l41, l42, hs, lc, PL_nil, plainB_lit, PL_cons, PLc_val, PLc_new, stepP_t, stepP_f, stepPC_n, stepPC_s, stepPX_s, stepPX_n, stepPV_n, stepPV_s, stepPA_t, stepPA_c, stepPA_l, stepPN_s, allocOp, reloc_sl, reloc_ptr, List.map_cons, List.map_nil, List.nil_append, List.append_assoc, List.cons_append, Nat.add_assoc]
  refine PLc_call (v := .int .i64 (cmpL s c)) (by kernel_rfl) (fun N hN => ?_) (by simp [pv_iv, pv_int, pv_bool, pv_string, pv_tup2, pv_tup3, iv_plain, p2_int, p2_bool, p2_string]) ?_
  ·exact (compare_ac (hget_left' g41) (hget_left' g42) hs lc).mono fun v' H' h => h.1
  try simp (disch := first | omega | (simp only [lnS]; try omega)) [-getElem?_pos, -getElem?_neg, hgt, PL_nil, plainB_lit, PL_cons, PLc_val, PLc_new, stepP_t, stepP_f, stepPC_n, stepPC_s, stepPX_s, stepPX_n, stepPV_n, stepPV_s, stepPA_t, stepPA_c, stepPA_l, stepPN_s, allocOp, reloc_sl, reloc_ptr, List.map_cons, List.map_nil, List.nil_append, List.append_assoc, List.cons_append, Nat.add_assoc]
  refine hK _ _ ?_; clear hK K
  refine aw_f (by (first | (simp; done) | (simp; omega))) (by kernel_rfl) ?_
  refine aw_skip ?_
  have hrow : setR (setR (List.map (fun j => (iv .u8 (zl 32))[j % 32]?.getD undef) (List.range 64)) 0 (iv .u8 s)) 32 (iv .u8 c) = iv .u8 s ++ iv .u8 c := row2 (by simp) (by simp [hs]) (by simp [lc])
  have htw := two_ac (nro := nro) (γ := γ) (G2 := G4 ++ [some ⟨iv .u8 s ++ iv .u8 c, 41, some 32⟩]) hpw hT0 hnro hnH (n := 4) (.inl rfl) hs hbs lc bc hT ⟨fun j hj => (hget_left (by omega)).trans (g4lw j hj), by simp; omega⟩ (z := H.length + 2) (q := G4.length) (by omega) ((hget_left (by omega)).trans g4z) (by omega) (by rw [hget_app0]; rfl)
  refine aw_seq (aoo fun K hK => ?_)
  simp (disch := first | omega | (simp only [lnS]; try omega)) [-getElem?_pos, -getElem?_neg, g41, g42, l41, l42, hts, htc, hrow]
  refine ⟨by kernel_rfl, AC.mono htw ?_⟩
  intro v' G3 hQ
  obtain ⟨N, _, lN, ht, hse, rfl, hlt, hg, hfin⟩ := hQ
  have hn2 : nro ≤ H.length + 2 := by omega
  try simp (disch := first | omega | (simp only [lnS]; try omega)) [-getElem?_pos, -getElem?_neg, hn2, lN, ht, hse, hg, hlt]
  refine hK _ _ ?_; clear hK K
  (refine aw_ret ?_; simp (disch := first | omega | (simp only [lnS]; try omega)) [-getElem?_pos, -getElem?_neg, thenQ_ret, scopeQ_ret, inBlockQ_ret, RQ, resL, resV, lN, ht, hlt])
  exact .inr ⟨hp0, _, rfl, hag ▸ hfin _⟩
theorem agree_ac {nro : Nat} {γ : Nat → Option Nat} {H : AH} (hpw : Pw γ H) {b : Nat} {F : List Nat} {T : List TermD} (h : Tbl H b F T) (hnro : ∀ j ∈ F, nro ≤ j) (hnH : nro ≤ H.length) {s p : List Int} (hs : s.length = 32) (hbs : By s) (hp : p.length = 32) (hbp : By p) (hT : T.length ≤ 1000000) :
  AC Tryd.prog nro γ 54 #[.pointer (some ⟨b, 0, none⟩), .agg (iv .u8 s).toArray, .agg (iv .u8 p).toArray] H (AgreeQ H b F T s p) := by
 by_cases hp0 : p = zl 32
 ·subst hp0
  exact agree0_ac hnH hs
 ·cases hy : findT T p with
  | none => exact agreeN_ac hpw h hnro hnH hs hbs hp hbp hp0 hT (fun x hx => by rw [hy] at hx; cases hx)
  | some y =>
   by_cases hy3 : y.kind = 3
   ·exact agreeP_ac hpw h hnro hnH hs hbs hp hbp hp0 hT hy hy3
   ·exact agreeN_ac hpw h hnro hnH hs hbs hp hbp hp0 hT (fun x hx => by rw [hy] at hx; cases hx; exact hy3)
end
section
theorem lay32 {X : List Int} (h : X.length = 32) : List.take 32 (setR (iv .u8 (zl 32)) 0 (iv .u8 X)) = iv .u8 X := by
 rw [setR_all _ _ (by simp [h]), List.take_of_length_le (by simp [h])]
theorem zl24 : (zl 24).length = 24 := by simp [zl]
theorem rname_rc {γ : Nat → Option Nat} {H : AH} {n : Int} (hn : 0 ≤ n ∧ n < 4611686018427387904) : AC Tryd.prog H.length γ 49 #[.int .i64 n] H (fun v' _ => v' = .agg (iv .u8 (nmL n)).toArray) := by
 have t0 : n.tdiv 16777216 = n / 16777216 := Int.tdiv_eq_ediv_of_nonneg hn.1
 have t1 : n.tdiv 65536 = n / 65536 := Int.tdiv_eq_ediv_of_nonneg hn.1
 have t2 : n.tdiv 256 = n / 256 := Int.tdiv_eq_ediv_of_nonneg hn.1
 have m1 : (n / 65536).tmod 256 = n / 65536 % 256 := Int.tmod_eq_emod_of_nonneg (by omega)
 have m2 : (n / 256).tmod 256 = n / 256 % 256 := Int.tmod_eq_emod_of_nonneg (by omega)
 have m3 : n.tmod 256 = n % 256 := Int.tmod_eq_emod_of_nonneg hn.1
 have w0 : IntKind.u8.wrap (n / 16777216) = n / 16777216 % 256 := u8w _
 have w1 : IntKind.u8.wrap (n / 65536 % 256) = n / 65536 % 256 := by rw [u8w]; omega
 have w2 : IntKind.u8.wrap (n / 256 % 256) = n / 256 % 256 := by rw [u8w]; omega
 have w3 : IntKind.u8.wrap (n % 256) = n % 256 := by rw [u8w]; omega
 have v0 : IntKind.i64.wrap (n / 16777216) = n / 16777216 := w64 (by omega)
 have v1 : IntKind.i64.wrap (n / 65536) = n / 65536 := w64 (by omega)
 have v2 : IntKind.i64.wrap (n / 256) = n / 256 := w64 (by omega)
 have e : ∀ a b c d : Int, ((((((((iv .u8 (zl 32)).set 0 (.int .u8 116)).set 1 (.int .u8 101)).set 2 (.int .u8 114)).set 3 (.int .u8 109)).set 4 (.int .u8 a)).set 5 (.int .u8 b)).set 6 (.int .u8 c)).set 7 (.int .u8 d) = iv .u8 (116 :: 101 :: 114 :: 109 :: a :: b :: c :: d :: zl 24) := fun _ _ _ _ => rfl
 have e2 : nmL n = 116 :: 101 :: 114 :: 109 :: n / 16777216 % 256 :: n / 65536 % 256 :: n / 256 % 256 :: n % 256 :: zl 24 := rfl
 rw [e2]
 refine ac_of_aw Tryd.func49 rfl Tryd.ntmps49 Tryd.results49 (by simp) ?_
 (refine aw_seq (aoo fun K hK => ?_); simp (disch := first | omega | (simp only [lnS]; try omega)) []; refine hK _ _ ?_; clear hK K)
 (refine aw_seq (aoo fun K hK => ?_); simp (disch := first | omega | (simp only [lnS]; try omega)) [t0, t1, t2, m1, m2, m3, w0, w1, w2, w3, v0, v1, v2, e]; refine hK _ _ ?_; clear hK K)
 (refine aw_ret ?_; simp (disch := first | omega | (simp only [lnS]; try omega)) [thenQ_ret, scopeQ_ret, inBlockQ_ret, RQ, resL, resV])
 exact lay32 (by simp only [List.length_cons, zl24])
end
end
section
def uE (U : List (List Int × Value)) : List (Value × Value) := U.map fun p => (kyv p.1, p.2)
def ul (k : List Int) : List (List Int × Value) → Value
 | [] => .slice none 0 0
 | p :: U => if k = p.1 then p.2 else ul k U
def uput (k : List Int) (v : Value) : List (List Int × Value) → List (List Int × Value)
 | [] => [(k, v)]
 | p :: U => if k = p.1 then (k, v) :: U else p :: uput k v U
theorem ul_uput (k0 : List Int) (v : Value) (k : List Int) : ∀ U, ul k (uput k0 v U) = if k = k0 then v else ul k U
 | [] => rfl
 | p :: U => by
  unfold uput
  by_cases e : k0 = p.1
  ·rw [if_pos e]
   unfold ul
   by_cases e2 : k = k0
   ·rw [if_pos e2, if_pos e2]
   ·rw [if_neg e2, if_neg e2, if_neg (fun c => e2 (c.trans e.symm))]
  ·rw [if_neg e]
   unfold ul
   rw [ul_uput k0 v k U]
   by_cases e2 : k = p.1
   ·rw [if_pos e2, if_pos e2, if_neg (fun c => e (c.symm.trans e2))]
   ·rw [if_neg e2, if_neg e2]
theorem uput_len {k : List Int} {v : Value} (hk : k.length = 32) : ∀ {U : List (List Int × Value)}, (∀ p ∈ U, p.1.length = 32) → ∀ p ∈ uput k v U, p.1.length = 32
 | [], _, p, hp => by
  rw [List.mem_singleton.1 hp]
  exact hk
 | q :: U, h, p, hp => by
  unfold uput at hp
  split at hp
  ·rcases List.mem_cons.1 hp with rfl | hp
   ·exact hk
   ·exact h p (by simp [hp])
  ·rcases List.mem_cons.1 hp with rfl | hp
   ·exact h p (by simp)
   ·exact uput_len hk (fun p hp => h p (by simp [hp])) p hp
theorem uE_find (k : List Int) : ∀ U, (∃ j, mfind (kyv k) (uE U) = some j ∧ (uE U)[j]? = some (kyv k, ul k U) ∧ ∀ v, (uE U).set j (kyv k, v) = uE (uput k v U)) ∨ (mfind (kyv k) (uE U) = none ∧ ul k U = .slice none 0 0 ∧ ∀ v, uE U ++ [(kyv k, v)] = uE (uput k v U))
 | [] => .inr ⟨rfl, rfl, fun v => rfl⟩
 | p :: U => by
  have hm : mfind (kyv k) (uE (p :: U)) = if keyEq (kyv k) (kyv p.1) = true then some 0 else (mfind (kyv k) (uE U)).map (· + 1) := rfl
  rw [hm, keyEq_kyv]
  by_cases e : k = p.1
  ·refine .inl ⟨0, by rw [if_pos (by simp [e])], ?_, fun v => ?_⟩
   ·unfold ul
    rw [if_pos e]
    show some (kyv p.1, p.2) = _
    rw [e]
   ·unfold uput
    rw [if_pos e]
    rfl
  ·have hb : (k == p.1) = false := by simpa using e
   rw [hb]
   have hul : ul k (p :: U) = ul k U := if_neg e
   have hup : ∀ v, uput k v (p :: U) = p :: uput k v U := fun v => if_neg e
   rcases uE_find k U with ⟨j, h1, h2, h3⟩ | ⟨h1, h2, h3⟩
   ·refine .inl ⟨j + 1, by rw [h1]; rfl, by rw [hul]; exact h2, fun v => ?_⟩
    rw [hup]
    show (kyv p.1, p.2) :: (uE U).set j (kyv k, v) = _
    rw [h3]; rfl
   ·refine .inr ⟨by rw [h1]; rfl, by rw [hul]; exact h2, fun v => ?_⟩
    rw [hup]
    show (kyv p.1, p.2) :: (uE U ++ [(kyv k, v)]) = _
    rw [h3]; rfl
theorem uE_ok {U : List (List Int × Value)} (h : ∀ p ∈ U, p.1.length = 32) : mapOk Tryd.prog 41 (uE U) = true := by
 refine List.all_eq_true.2 fun q hq => ?_
 obtain ⟨p, hp, rfl⟩ := List.mem_map.1 hq
 exact kyv_ok (h p hp)
theorem us_look {H : AH} {ub : Nat} {U : List (List Int × Value)} (hu : hget H ub = some (mblk 86 (uE U))) (hU : ∀ p ∈ U, p.1.length = 32) {k : List Int} (hk : k.length = 32) : xlookup Tryd.prog 86 (.map (some ub)) (.agg (iv .u8 k).toArray) false H = some (ul k U) := by
 have h1 : und Tryd.prog 86 = .map 41 39 := by kernel_rfl
 have h4 : zer Tryd.prog 39 = some (.slice none 0 0) := by kernel_rfl
 have h5 : plain2 (.slice none 0 0) = true := rfl
 have hk2 : keyOk Tryd.prog 41 (.agg (iv .u8 k).toArray) = true := kyv_ok hk
 unfold xlookup mget
 simp only [h1, hu, Option.bind_some, ents_mblk, hk2, uE_ok hU]
 have hky : (Value.agg (iv .u8 k).toArray) = kyv k := rfl
 rw [hky]
 rcases uE_find k U with ⟨j, g1, g2, g3⟩ | ⟨g1, g2, g3⟩
 ·simp [g1, g2]
 ·simp [g1, g2, h4, h5]
theorem us_entry {nro : Nat} {H : AH} {ub : Nat} {U : List (List Int × Value)} (hu : hget H ub = some (mblk 86 (uE U))) (hn : nro ≤ ub) (hU : ∀ p ∈ U, p.1.length = 32) {k : List Int} (hk : k.length = 32) :
  ∃ (idx : Nat) (E1 : List (Value × Value)), xmapEnt Tryd.prog nro 86 (.map (some ub)) (.agg (iv .u8 k).toArray) H = some (.tuple #[ul k U, .int .i64 (idx : Nat)], H.set ub (some (mblk 86 E1))) ∧
   ∀ (G : AH) (v : Value), hget G ub = some (mblk 86 E1) → notTuple v = true → xentSt nro (.map (some ub)) (.int .i64 (idx : Nat)) v G = some (undef, G.set ub (some (mblk 86 (uE (uput k v U))))) := by
 have h1 : und Tryd.prog 86 = .map 41 39 := by kernel_rfl
 have h4 : zer Tryd.prog 39 = some (.slice none 0 0) := by kernel_rfl
 have h5 : plain2 (.slice none 0 0) = true := rfl
 have hk2 : keyOk Tryd.prog 41 (kyv k) = true := kyv_ok hk
 have hky : (Value.agg (iv .u8 k).toArray) = kyv k := rfl
 rw [hky]
 rcases uE_find k U with ⟨j, g1, g2, g3⟩ | ⟨g1, g2, g3⟩
 ·have hgd : (uE U).getD j (undef, undef) = (kyv k, ul k U) := by rw [List.getD_eq_getElem?_getD, g2]; rfl
  have hjl := (List.getElem?_eq_some_iff.1 g2).1
  refine ⟨j, (uE U).set j (kyv k, ul k U), ?_, fun G v hG hv => ?_⟩
  ·unfold xmapEnt
   simp only [h1, hu, ents_mblk, hk2, uE_ok hU, g1, hgd, mblk_ty]
   rw [if_pos ⟨hn, trivial, trivial⟩]
  ·unfold xentSt
   simp only [hG, ents_mblk, mblk_ty]
   have e1 : ((uE U).set j (kyv k, ul k U)).getD j (undef, undef) = (kyv k, ul k U) := by rw [List.getD_eq_getElem?_getD, List.getElem?_set_self hjl]; rfl
   have e2 : ((j : Nat) : Int).toNat = j := Int.toNat_natCast j
   rw [e2, if_pos ⟨hn, by omega, by simpa using hjl, hv⟩, e1, List.set_set, g3]
 ·refine ⟨(uE U).length, uE U ++ [(kyv k, .slice none 0 0)], ?_, fun G v hG hv => ?_⟩
  ·unfold xmapEnt
   simp only [h1, hu, ents_mblk, hk2, uE_ok hU, g1, g2, h4, mblk_ty]
   rw [if_pos ⟨hn, trivial, trivial⟩, if_pos h5]
  ·unfold xentSt
   simp only [hG, ents_mblk, mblk_ty]
   have e1 : (uE U ++ [(kyv k, Value.slice none 0 0)]).getD (uE U).length (undef, undef) = (kyv k, .slice none 0 0) := by simp
   have e2 : (((uE U).length : Nat) : Int).toNat = (uE U).length := Int.toNat_natCast _
   rw [e2, if_pos ⟨hn, by omega, by simp, hv⟩, e1, ← g3 v]
   simp
structure SrC where
 sb : Nat
 kb : Nat
 mb : Nat
 ub : Nat
 b : Nat
 tv : Value
 S : List Nat
 Ft : List Nat
 Fk : List Nat
 L : List (Value × TermD)
 U : List (List Int × Value)
def SrC.T (c : SrC) : List TermD := c.L.map (·.2)
structure SrS (H : AH) (c : SrC) : Prop where
 tb : TblF H c.b c.mb c.tv c.Ft c.Fk c.L
 tS : ∀ j ∈ c.b :: c.mb :: (c.Ft ++ c.Fk), j ∈ c.S
 uS : c.ub ∈ c.S
 hu : hget H c.ub = some (mblk 86 (uE c.U))
 hU : ∀ p ∈ c.U, p.1.length = 32
 us : ∀ k : List Int, k.length = 32 → ∃ Fu, Tdo H (ul k c.U) (usersF k 0 c.T) Fu ∧ ∀ j ∈ Fu, j ∈ c.S
theorem SrS.low {H G : AH} {c : SrC} (h : SrS H c) (hl : ∀ j ∈ c.S, hget G j = hget H j) : SrS G c :=
 ⟨h.tb.low (fun j hj => hl j (h.tS j hj)), h.tS, h.uS, (hl _ h.uS).trans h.hu, h.hU, fun k hk => by
  obtain ⟨Fu, h1, h2⟩ := h.us k hk
  exact ⟨Fu, h1.low (fun j hj => hl j (h2 j hj)), h2⟩⟩
structure SR (γ : Nat → Option Nat) (nro : Nat) (H : AH) (c : SrC) (F : List Nat) (s : FSt) : Prop where
 pw : ∀ G : AH, (∀ j ∈ c.S, hget G j = hget H j) → Pw γ G
 st : SrS H c
 dy : SrD H c.L.length c.sb c.kb c.mb c.ub c.tv F s
 ap : ∀ j ∈ c.S, j ∉ F ∧ j < H.length
 nr : ∀ j ∈ F, nro ≤ j
 nH : nro ≤ H.length
 n : c.L.length ≤ 1000000
def SRQ (γ : Nat → Option Nat) (nro : Nat) (H : AH) (c : SrC) (F : List Nat) (s : FSt) (v' : Value) (H' : AH) : Prop :=
 v' = .tuple #[] ∧ H.length ≤ H'.length ∧ (∀ j, j < H.length → j ∉ F → hget H' j = hget H j) ∧ ∃ F', SR γ nro H' c F' s ∧ ∀ j ∈ F', j ∈ F ∨ H.length ≤ j
section
variable {γ : Nat → Option Nat} {nro : Nat} {H : AH} {c : SrC} {F : List Nat} {s t : FSt}
theorem SR.step {v : Value} {G : AH} (h : SR γ nro H c F s) (q : SrQ H c.L.length c.sb c.kb c.mb c.ub c.tv F t v G) : SRQ γ nro H c F t v G := by
 obtain ⟨h0, h1, h2, F', h3, h4⟩ := q
 have hS : ∀ j ∈ c.S, hget G j = hget H j := fun j hj => h2 j (h.ap j hj).2 (h.ap j hj).1
 refine ⟨h0, h1, h2, F', ⟨fun A hA => h.pw A (fun j hj => (hA j hj).trans (hS j hj)), h.st.low hS, h3, fun j hj => ⟨fun hm => ?_, by have := (h.ap j hj).2; omega⟩, fun j hj => ?_, by have := h.nH; omega, h.n⟩, h4⟩
 ·rcases h4 j hm with e | e
  ·exact (h.ap j hj).1 e
  ·have := (h.ap j hj).2; omega
 ·rcases h4 j hj with e | e
  ·exact h.nr j e
  ·have := h.nH; omega
theorem SR.lay {G : AH} (h : SR γ nro H c F s) (lw : Low H.length H G) : SR γ nro G c F s := by
 have hb := h.dy.bound
 exact ⟨fun A hA => h.pw A (fun j hj => (hA j hj).trans (lw.1 j (h.ap j hj).2)), h.st.low (fun j hj => lw.1 j (h.ap j hj).2), h.dy.low (fun j hj => lw.1 j (hb j hj)), fun j hj => ⟨(h.ap j hj).1, by have := (h.ap j hj).2; have := lw.2; omega⟩, h.nr, by have := h.nH; have := lw.2; omega, h.n⟩
theorem SR.push (h : SR γ nro H c F s) (N : AH) : SR γ nro (H ++ N) c F s := h.lay ⟨fun j hj => hget_left hj, by simp⟩
theorem SR.same {G : AH} (h : SR γ nro H c F s) (lw : Low H.length H G) : SRQ γ nro H c F s (.tuple #[]) G := ⟨rfl, lw.2, fun j hj _ => lw.1 j hj, F, h.lay lw, fun j hj => .inl hj⟩
theorem SR.bound (h : SR γ nro H c F s) : ∀ j ∈ F, j < H.length := h.dy.bound
theorem SRQ.up {H2 G : AH} {v : Value} (q : SRQ γ nro H2 c F t v G) (lw : Low H.length H H2) (hF : ∀ j ∈ F, j < H.length) : SRQ γ nro H c F t v G := by
 obtain ⟨h0, h1, h2, F', h3, h4⟩ := q
 have hl := lw.2
 exact ⟨h0, by omega, fun j hj hn => (h2 j (by omega) hn).trans (lw.1 j hj), F', h3, fun j hj => (h4 j hj).imp id (fun e => by omega)⟩
theorem SRQ.then_ {F1 : List Nat} {G A : AH} {v : Value} {u : FSt} (hl : H.length ≤ G.length) (hk : ∀ j, j < H.length → j ∉ F → hget G j = hget H j) (hF : ∀ j ∈ F1, j ∈ F ∨ H.length ≤ j) (q : SRQ γ nro G c F1 u v A) : SRQ γ nro H c F u v A := by
 obtain ⟨h0, h1, h2, F', h3, h4⟩ := q
 refine ⟨h0, by omega, fun j hj hn => (h2 j (by omega) (fun e => ?_)).trans (hk j hj hn), F', h3, fun j hj => ?_⟩
 ·rcases hF j e with e | e
  ·exact hn e
  ·omega
 ·rcases h4 j hj with e | e
  ·exact hF j e
  ·exact .inr (by omega)
theorem learnS_ac (h : SR γ nro H c F s) {k : List Int} (hk : k.length = 32) (hb : By k) : AC Tryd.prog nro γ 41 #[.pointer (some ⟨c.sb, 0, none⟩), .agg (iv .u8 k).toArray] H (SRQ γ nro H c F (lrn s k)) :=
 (learn_ac h.dy h.nr h.nH h.n h.st.tb.tvlen.2 hk hb).mono fun _ _ q => h.step q
end
end
section
attribute [local simp] wb_bool wb_undef with_lit XL_nil XL_cons XLc_val XLc_call step1_eq stepW_t stepW_f stepC_n stepC_s stepX_s stepX_n stepN_s calleeX xrecv oneV xop_eq xopR_s xopR_n wantedA_eq wantedG_n wantedG_s plain1_int plain1_bool plain1_string bits_i64 bits_u64 bits_u32 bits_u16 bits_u8 xeqA xagg xcmp xarr allK_iv num_iv calleeOf xread xeff xbin xint xnil xun xstr xload xconv xpart xfield xfieldAddr xindexAddr xindex bnd asInt? xslice xlen xmin xmax xbuild xfill xappend xapp2 xappstr xappmk xcap xcopy xcells eval_tmp eval_const put_at put_none fr0_at cells_agg cells_int cells_bool cells_string cells_ptr cells_slice notTuple tab iv_all hget_app hget_app0 hget_cons0 hget_cons set_app set_app0 setR setR_one QL_nil QL_cons QLc_val stepQ_t stepQ_f stepQC_n stepQC_s stepQX_s SL_nil SL_cons SLc_val stepS_t stepS_f ltT ltF leT leF eqT eqF ltTn ltFn leTn leFn eqTn eqFn beqT beqF bneT bneF wi64 wu64 wu32 wu16 wu8 tmodP tdivP hgetL hgetNe hgetEq setL nums_def nums_len Nat.succ_le_of_lt List.getElem?_cons_zero List.getElem?_cons_succ Option.getD_some Int.toNat_add Int.toNat_mul agM okM agB agI agS agP agL agA okB okI okS okP okSl okA nt_strG nt_boolG nt_aggG nt_intG nt_ptrG nt_slG
section
theorem nt_mapG (x : Option Nat) : notTuple (.map x) = true := rfl
theorem shown_getV (l : Nat) {H L : AH} {N : List Blk} {i j : Nat} {b : Blk} (h : Shown H.length N L (.slice (some ⟨i, 0, none⟩) l l)) (hi : i = H.length + j) (hb : N[j]? = some b) : hget (H ++ L) i = some b := by
 have := h j b hi hb
 rw [hi, hget_app]
 exact this
theorem empty_rec {k : List Int} : tmRec ((3 : Nat) : Int) ⟨#[]⟩ [k] = (TermD.mk 3 ⟨#[]⟩ [k]).rec_ := rfl
theorem SR.blocks {γ : Nat → Option Nat} {nro : Nat} {H : AH} {c : SrC} {F : List Nat} {s : FSt} (h : SR γ nro H c F s) : ∃ tdv, hget H c.sb = some ⟨[c.tv, .map (some c.mb), .map (some c.ub), .slice (some ⟨c.kb, 0, none⟩) c.L.length c.L.length, tdv], 88, none⟩ ∧ notTuple tdv = true ∧ hget H c.kb = some ⟨bsC s.1, 4, some 1⟩ ∧ s.1.length = c.L.length ∧ (bsC s.1).length = c.L.length ∧ notTuple c.tv = true ∧ c.tv.cells = #[c.tv] := by
 obtain ⟨tdv, Fd, rfl, h1, h2, h3, h4, _⟩ := h.dy
 exact ⟨tdv, h1, h4.nt.1, h2, h3, by simp [bsC, h3], h.st.tb.tvlen.2⟩
theorem agrees_rc {γ : Nat → Option Nat} {nro : Nat} {H : AH} {c : SrC} {F : List Nat} {s : FSt} (h : SR γ nro H c F s) {a b : List Int} (ha : a.length = 32) (hba : By a) (hb : b.length = 32) (hbb : By b) :
  AC Tryd.prog H.length γ 68 #[.pointer (some ⟨c.sb, 0, none⟩), .agg (iv .u8 a).toArray, .agg (iv .u8 b).toArray] H (fun v' _ => v' = .bool (agrS c.T s.1 a b)) := by
 obtain ⟨tdv, hsb, hnd, hkb, hsl, hbl, hnt, hcs⟩ := h.blocks
 have hn := h.n
 have hta : (iv .u8 a).take 32 = iv .u8 a := List.take_of_length_le (by simp [ha])
 have htb : (iv .u8 b).take 32 = iv .u8 b := List.take_of_length_le (by simp [hb])
 have lsb := hget_lt hsb
 have lkb := hget_lt hkb
 have hfa := fun (G : AH) (e : hget G c.kb = hget H c.kb) => follows_rc (γ := γ) (H := G) (n := c.L.length) (e.trans hkb) hsl hn ha hba
 have hfb := fun (G : AH) (e : hget G c.kb = hget H c.kb) => follows_rc (γ := γ) (H := G) (n := c.L.length) (e.trans hkb) hsl hn hb hbb
 have hpw : Pw γ H := h.pw H (fun _ _ => rfl)
 have hm := h.st.tb.hm
 have hlk := fun (G : AH) (e : hget G c.mb = hget H c.mb) => tm_look (e.trans hm) (TermD.mk 3 ⟨#[]⟩ [b]).rec_
 have hrb := fun (G : AH) (hP : Pw γ G) (v : Value) (hK : KsV G v [b]) => recipe_rc (γ := γ) (H := G) hP (kind := ((3 : Nat) : Int)) (by omega) (by omega) (s := ⟨#[]⟩) (by show (0 : Nat) ≤ _; omega) hK (fun y hy => by rw [List.mem_singleton.1 hy]; exact hb) (fun y hy => by rw [List.mem_singleton.1 hy]; exact hbb) (by simp)
 rw [empty_rec] at hrb
 have hpT : placeT ⟨3, ⟨#[]⟩, [b]⟩ c.T = idxS (TermD.mk 3 ⟨#[]⟩ [b]).rec_ ((c.L.map (·.2)).map TermD.rec_) := rfl
 have hpk : ∀ p, idxS (TermD.mk 3 ⟨#[]⟩ [b]).rec_ ((c.L.map (·.2)).map TermD.rec_) = some p → p < c.L.length := fun p hp => by
  have := (List.getElem?_eq_some_iff.1 (idxS_some hp)).1
  simpa using this
 unfold agrS pubK
 rw [hpT]
 generalize (TermD.mk 3 ⟨#[]⟩ [b]).rec_ = r at *
 generalize idxS r ((c.L.map (·.2)).map TermD.rec_) = pl at *
 generalize fol s.1 a = fa at *
 generalize fol s.1 b = fb at *
 have hsrb : setR (List.map (fun j => (iv .u8 (zl 32))[j % 32]?.getD undef) (List.range 32)) 0 (iv .u8 b) = iv .u8 b := setR_all _ _ (by simp [hb])
 obtain ⟨H1, hH1⟩ : ∃ H1 : AH, H1 = H ++ [some ⟨iv .u8 a, 41, none⟩, some ⟨iv .u8 b, 41, none⟩] := ⟨_, rfl⟩
 have k1 : ∀ j, j < H.length → hget H1 j = hget H j := fun j hj => by rw [hH1]; exact hget_left hj
 have g4 : hget H1 H.length = some ⟨iv .u8 a, 41, none⟩ := by rw [hH1, hget_app0]; rfl
 have g5 : hget H1 (H.length + 1) = some ⟨iv .u8 b, 41, none⟩ := by rw [hH1, hget_app]; rfl
 have l1 : H1.length = H.length + 2 := by rw [hH1]; simp
 have s1 := (k1 _ lsb).trans hsb
 have m1 : hget H1 c.mb = hget H c.mb := k1 _ (hget_lt hm)
 have b1 : hget H1 c.kb = hget H c.kb := k1 _ lkb
 have lm : c.mb < H.length := hget_lt hm
 refine ac_of_aw Tryd.func68 rfl Tryd.ntmps68 Tryd.results68 (by simp) ?_
 (refine aw_seq (aoo fun K hK => ?_); simp (disch := first | omega | (simp only [lnS]; try omega)) [-getElem?_pos, -getElem?_neg, hta, htb]; refine hK _ _ ?_; clear hK K)
 rw [← hH1]
 refine aw_seq (aw_seq ?_)
 (refine aw_plan [] [] [0, 1, 2, 3, 4, 5, 6] 7 0 (by kernel_rfl) (by kernel_rfl) (by kernel_rfl) (fun K hK => ?_)); simp only [sel, List.getElem?_cons_succ, List.getElem?_cons_zero, List.drop_succ_cons, List.drop_zero]; simp (disch := first | omega | (simp only [lnS]; try omega)) [-getElem?_pos, -getElem?_neg, s1, g4, ha, hta, -notTuple, hnt, hnd, nt_mapG, PL_nil, plainB_lit, PL_cons, PLc_val, PLc_new, stepP_t, stepP_f, stepPC_n, stepPC_s, stepPX_s, stepPX_n, stepPV_n, stepPV_s, stepPA_t, stepPA_c, stepPA_l, stepPN_s, allocOp, reloc_sl, reloc_ptr, List.map_cons, List.map_nil, List.nil_append, List.append_assoc, List.cons_append, Nat.add_assoc]
 refine PLc_call (v := .bool fa) (by kernel_rfl) (fun L hL => hfa (H1 ++ L) ((hget_left (by omega)).trans b1)) (by simp [pv_iv, pv_int, pv_bool, pv_string, pv_tup2, pv_tup3, iv_plain, p2_int, p2_bool, p2_string]) ?_
 simp (disch := first | omega | (simp only [lnS]; try omega)) [-getElem?_pos, -getElem?_neg, PL_nil, plainB_lit, PL_cons, PLc_val, PLc_new, stepP_t, stepP_f, stepPC_n, stepPC_s, stepPX_s, stepPX_n, stepPV_n, stepPV_s, stepPA_t, stepPA_c, stepPA_l, stepPN_s, allocOp, reloc_sl, reloc_ptr, List.map_cons, List.map_nil, List.nil_append, List.append_assoc, List.cons_append, Nat.add_assoc]
 refine hK _ _ ?_; clear hK K
 cases fa with
 | false =>
  refine aw_t (by (first | (simp; done) | (simp; omega))) (by kernel_rfl) ?_
  (refine aw_seq (aoo fun K hK => ?_); simp (disch := first | omega | (simp only [lnS]; try omega)) [-getElem?_pos, -getElem?_neg]; refine hK _ _ ?_; clear hK K)
  (refine aw_ret ?_; simp (disch := first | omega | (simp only [lnS]; try omega)) [-getElem?_pos, -getElem?_neg, thenQ_ret, scopeQ_ret, inBlockQ_ret, RQ, resL, resV])
 | true =>
  refine aw_f (by (first | (simp; done) | (simp; omega))) (by kernel_rfl) ?_
  refine aw_skip (aw_seq ?_)
  (refine aw_plan [] [] [0, 1, 2, 3, 4, 5, 6, 7, 8, 9, 10, 11, 12] 13 0 (by kernel_rfl) (by kernel_rfl) (by kernel_rfl) (fun K hK => ?_)); simp only [sel, List.getElem?_cons_succ, List.getElem?_cons_zero, List.drop_succ_cons, List.drop_zero]; simp (disch := first | omega | (simp only [lnS]; try omega)) [-getElem?_pos, -getElem?_neg, s1, g5, hb, htb, hsrb, -notTuple, hnt, hnd, nt_mapG, PL_nil, plainB_lit, PL_cons, PLc_val, PLc_new, stepP_t, stepP_f, stepPC_n, stepPC_s, stepPX_s, stepPX_n, stepPV_n, stepPV_s, stepPA_t, stepPA_c, stepPA_l, stepPN_s, allocOp, reloc_sl, reloc_ptr, List.map_cons, List.map_nil, List.nil_append, List.append_assoc, List.cons_append, Nat.add_assoc]
  refine PLc_call (v := .string r) (by kernel_rfl) (fun L hL => hrb (H1 ++ L) (hpw.low ⟨fun j hj => (hget_left (by omega)).trans (k1 j hj), by simp; omega⟩) _ ?_) (by simp [pv_iv, pv_int, pv_bool, pv_string, pv_tup2, pv_tup3, iv_plain, p2_int, p2_bool, p2_string]) ?_
  ·exact keys1 hb (shown_getV 1 (j := 0) (hL _ (by simp)) (by simp) rfl)
  cases pl with
  | none =>
   simp (disch := first | omega | (simp only [lnS]; try omega)) [-getElem?_pos, -getElem?_neg, hlk H1 m1, PL_nil, plainB_lit, PL_cons, PLc_val, PLc_new, stepP_t, stepP_f, stepPC_n, stepPC_s, stepPX_s, stepPX_n, stepPV_n, stepPV_s, stepPA_t, stepPA_c, stepPA_l, stepPN_s, allocOp, reloc_sl, reloc_ptr, List.map_cons, List.map_nil, List.nil_append, List.append_assoc, List.cons_append, Nat.add_assoc]
   refine hK _ _ ?_; clear hK K
   refine aw_seq ?_
   (refine aw_plan [] [] [0, 1, 2, 3, 4, 5, 6, 7, 8, 9, 10, 11, 12, 13, 14, 15, 16, 17, 18] 19 0 (by kernel_rfl) (by kernel_rfl) (by kernel_rfl) (fun K hK => ?_)); simp only [sel, List.getElem?_cons_succ, List.getElem?_cons_zero, List.drop_succ_cons, List.drop_zero]; simp (disch := first | omega | (simp only [lnS]; try omega)) [-getElem?_pos, -getElem?_neg, s1, g5, hb, htb, hsrb, -notTuple, hnt, hnd, nt_mapG, PL_nil, plainB_lit, PL_cons, PLc_val, PLc_new, stepP_t, stepP_f, stepPC_n, stepPC_s, stepPX_s, stepPX_n, stepPV_n, stepPV_s, stepPA_t, stepPA_c, stepPA_l, stepPN_s, allocOp, reloc_sl, reloc_ptr, List.map_cons, List.map_nil, List.nil_append, List.append_assoc, List.cons_append, Nat.add_assoc]
   refine PLc_call (v := .bool fb) (by kernel_rfl) (fun L hL => hfb _ ?_) (by simp [pv_iv, pv_int, pv_bool, pv_string, pv_tup2, pv_tup3, iv_plain, p2_int, p2_bool, p2_string]) ?_
   ·rw [hget_left (by simp; omega), hget_left (by omega)]
    exact b1
   cases fb with
   | true =>
    simp (disch := first | omega | (simp only [lnS]; try omega)) [-getElem?_pos, -getElem?_neg, PL_nil, plainB_lit, PL_cons, PLc_val, PLc_new, stepP_t, stepP_f, stepPC_n, stepPC_s, stepPX_s, stepPX_n, stepPV_n, stepPV_s, stepPA_t, stepPA_c, stepPA_l, stepPN_s, allocOp, reloc_sl, reloc_ptr, List.map_cons, List.map_nil, List.nil_append, List.append_assoc, List.cons_append, Nat.add_assoc]
    refine hK _ _ ?_; clear hK K
    (refine aw_ret ?_; simp (disch := first | omega | (simp only [lnS]; try omega)) [-getElem?_pos, -getElem?_neg, thenQ_ret, scopeQ_ret, inBlockQ_ret, RQ, resL, resV])
   | false =>
    simp (disch := first | omega | (simp only [lnS]; try omega)) [-getElem?_pos, -getElem?_neg, PL_nil, plainB_lit, PL_cons, PLc_val, PLc_new, stepP_t, stepP_f, stepPC_n, stepPC_s, stepPX_s, stepPX_n, stepPV_n, stepPV_s, stepPA_t, stepPA_c, stepPA_l, stepPN_s, allocOp, reloc_sl, reloc_ptr, List.map_cons, List.map_nil, List.nil_append, List.append_assoc, List.cons_append, Nat.add_assoc]
    refine hK _ _ ?_; clear hK K
    (refine aw_ret ?_; simp (disch := first | omega | (simp only [lnS]; try omega)) [-getElem?_pos, -getElem?_neg, thenQ_ret, scopeQ_ret, inBlockQ_ret, RQ, resL, resV])
  | some p =>
   have hpl := hpk p rfl
   have hcell : (bsC s.1)[p]? = some (.bool (kw s.1 p)) := bsC_get (kw_get (by omega))
   have kb1 := b1.trans hkb
   simp (disch := first | omega | (simp only [lnS]; try omega)) [-getElem?_pos, -getElem?_neg, hlk H1 m1, PL_nil, plainB_lit, PL_cons, PLc_val, PLc_new, stepP_t, stepP_f, stepPC_n, stepPC_s, stepPX_s, stepPX_n, stepPV_n, stepPV_s, stepPA_t, stepPA_c, stepPA_l, stepPN_s, allocOp, reloc_sl, reloc_ptr, List.map_cons, List.map_nil, List.nil_append, List.append_assoc, List.cons_append, Nat.add_assoc]
   refine hK _ _ ?_; clear hK K
   refine aw_seq ?_
   (refine aw_plan [] [] [0, 1, 2, 3, 4, 5, 6, 7, 8, 9, 10, 11, 12, 13, 14, 15, 16, 17, 18] 19 0 (by kernel_rfl) (by kernel_rfl) (by kernel_rfl) (fun K hK => ?_)); simp only [sel, List.getElem?_cons_succ, List.getElem?_cons_zero, List.drop_succ_cons, List.drop_zero]; simp (disch := first | omega | (simp only [lnS]; try omega)) [-getElem?_pos, -getElem?_neg, s1, g5, hb, htb, hsrb, -notTuple, hnt, hnd, nt_mapG, PL_nil, plainB_lit, PL_cons, PLc_val, PLc_new, stepP_t, stepP_f, stepPC_n, stepPC_s, stepPX_s, stepPX_n, stepPV_n, stepPV_s, stepPA_t, stepPA_c, stepPA_l, stepPN_s, allocOp, reloc_sl, reloc_ptr, List.map_cons, List.map_nil, List.nil_append, List.append_assoc, List.cons_append, Nat.add_assoc]
   refine PLc_call (v := .bool fb) (by kernel_rfl) (fun L hL => hfb _ ?_) (by simp [pv_iv, pv_int, pv_bool, pv_string, pv_tup2, pv_tup3, iv_plain, p2_int, p2_bool, p2_string]) ?_
   ·rw [hget_left (by simp; omega), hget_left (by omega)]
    exact b1
   cases fb with
   | true =>
    simp (disch := first | omega | (simp only [lnS]; try omega)) [-getElem?_pos, -getElem?_neg, PL_nil, plainB_lit, PL_cons, PLc_val, PLc_new, stepP_t, stepP_f, stepPC_n, stepPC_s, stepPX_s, stepPX_n, stepPV_n, stepPV_s, stepPA_t, stepPA_c, stepPA_l, stepPN_s, allocOp, reloc_sl, reloc_ptr, List.map_cons, List.map_nil, List.nil_append, List.append_assoc, List.cons_append, Nat.add_assoc]
    refine hK _ _ ?_; clear hK K
    (refine aw_ret ?_; simp (disch := first | omega | (simp only [lnS]; try omega)) [-getElem?_pos, -getElem?_neg, thenQ_ret, scopeQ_ret, inBlockQ_ret, RQ, resL, resV])
   | false =>
    simp (disch := first | omega | (simp only [lnS]; try omega)) [-getElem?_pos, -getElem?_neg, hpl, kb1, hbl, hcell, s1, PL_nil, plainB_lit, PL_cons, PLc_val, PLc_new, stepP_t, stepP_f, stepPC_n, stepPC_s, stepPX_s, stepPX_n, stepPV_n, stepPV_s, stepPA_t, stepPA_c, stepPA_l, stepPN_s, allocOp, reloc_sl, reloc_ptr, List.map_cons, List.map_nil, List.nil_append, List.append_assoc, List.cons_append, Nat.add_assoc]
    refine hK _ _ ?_; clear hK K
    (refine aw_ret ?_; simp (disch := first | omega | (simp only [lnS]; try omega)) [-getElem?_pos, -getElem?_neg, thenQ_ret, scopeQ_ret, inBlockQ_ret, RQ, resL, resV])
end
section
theorem all_take_snoc {l : List (List Int)} {P : List Int → Bool} {i : Nat} (hi : i < l.length) (h : (l.take i).all P = true) (h2 : P (l.getD i []) = true) : (l.take (i + 1)).all P = true := by
 rw [List.take_add_one, List.all_append, h, List.getElem?_eq_getElem hi]
 rw [List.getD_eq_getElem?_getD, List.getElem?_eq_getElem hi] at h2
 simpa using h2
theorem all_out {l : List (List Int)} {P : List Int → Bool} {i : Nat} (hi : i < l.length) (h2 : P (l.getD i []) = false) : l.all P = false := by
 rw [List.getD_eq_getElem?_getD, List.getElem?_eq_getElem hi] at h2
 rw [List.all_eq_false]
 exact ⟨l[i], List.getElem_mem hi, by simpa using h2⟩
theorem makes_rc {γ : Nat → Option Nat} {nro : Nat} {H : AH} {c : SrC} {F : List Nat} {s : FSt} (h : SR γ nro H c F s) {kv : Value} {x : TermD} (hx : (kv, x) ∈ c.L) :
  AC Tryd.prog H.length γ 59 #[.pointer (some ⟨c.sb, 0, none⟩), .agg (tmRow kv x).toArray] H (fun v' _ => v' = .bool (mks c.T s.1 x)) := by
 obtain ⟨tdv, hsb, hnd, hkb, hsl, hbl, hnt, hcs⟩ := h.blocks
 have hn := h.n
 have lsb := hget_lt hsb
 have lkb := hget_lt hkb
 have hw : x.Wf := h.st.tb.wf _ hx
 have hkn := h.st.tb.key_nt hx
 obtain ⟨Fx, hox, _⟩ := h.st.tb.keys _ hx
 have hKs : KsV H kv x.keys := kr_ksv hox hw.k32
 have hacc := hKs.acc hw.k32
 have hmk := hw.many
 have hkd := hw.kind
 have hlen := hacc.len
 have p1 : plain1 (.slice none 0 0) = true := rfl
 have r3 : List.range 3 = [0, 1, 2] := rfl
 have hf := fun (G : AH) (e : hget G c.kb = hget H c.kb) (k : List Int) (hk : k.length = 32) (hb : By k) => follows_rc (γ := γ) (H := G) (n := c.L.length) (e.trans hkb) hsl hn hk hb
 obtain ⟨H1, hH1⟩ : ∃ H1 : AH, H1 = H ++ [some ⟨[.int .i64 (x.kind : Nat), .string x.text, kv], 92, none⟩] := ⟨_, rfl⟩
 have kj : ∀ j, j < H.length → hget H1 j = hget H j := fun j hj => by rw [hH1]; exact hget_left hj
 have g3 : hget H1 H.length = some ⟨[.int .i64 (x.kind : Nat), .string x.text, kv], 92, none⟩ := by rw [hH1, hget_app0]; rfl
 have l1 : H1.length = H.length + 1 := by rw [hH1]; simp
 have s1 := (kj _ lsb).trans hsb
 have lw1 : Low H.length H H1 := ⟨kj, by omega⟩
 have lg3 := hget_lt g3
 have hkey : ∀ i, i < x.keys.length → (x.keys.getD i []).length = 32 ∧ By (x.keys.getD i []) := fun i hi => by
  rw [List.getD_eq_getElem?_getD, List.getElem?_eq_getElem hi]
  exact ⟨hw.k32 _ (List.getElem_mem hi), hw.by_ _ (List.getElem_mem hi)⟩
 have htm : tmRow kv x = [.int .i64 (x.kind : Nat), .string x.text, kv] := rfl
 rw [htm]
 have hag := hw.agree
 have hacg := fun (N : AH) (a b : List Int) (ha : a.length = 32) (hba : By a) (hb : b.length = 32) (hbb : By b) => agrees_rc ((h.lay lw1).push N) ha hba hb hbb
 unfold mks k0 k1
 obtain ⟨kd, hkdd⟩ : ∃ kd, kd = x.kind := ⟨_, rfl⟩
 rw [← hkdd] at g3 hH1 hkd hag ⊢
 refine ac_of_aw Tryd.func59 rfl Tryd.ntmps59 Tryd.results59 (by simp) ?_
 (refine aw_seq (aoo fun K hK => ?_); simp (disch := first | omega | (simp only [lnS]; try omega)) [-notTuple, hkn.1, hkn.2]; refine hK _ _ ?_; clear hK K)
 rw [← hH1]
 refine aw_seq (aw_seq ?_)
 (refine aoo fun K hK => ?_; simp (disch := first | omega | (simp only [lnS]; try omega)) [g3, lg3, -notTuple, hkn.1]; refine hK _ _ ?_; clear hK K)
 refine aw_block ?_
 refine aw_seq ?_
 refine aw_cut (fun α G => G = H1 ∧ α 0 = .pointer (some ⟨c.sb, 0, none⟩) ∧ α 3 = .pointer (some ⟨H.length, 0, none⟩) ∧ α 8 = .int .i64 (kd : Nat) ∧ α 9 = .bool (decide (kd = 2 ∨ kd = 3 ∨ kd = 5 ∨ kd = 6))) ?_ ?_
 ·refine aw_seq ?_
  by_cases e2 : kd = 2
  ·have b2 : ((kd : Int) == 2) = true := by rw [e2]; rfl
   have i2 : (kd : Int) = 2 := by omega
   (refine aoo fun K hK => ?_; simp (disch := first | omega | (simp only [lnS]; try omega)) [b2, i2]; refine hK _ _ ?_; clear hK K)
   refine aw_t (by (first | (simp; done) | (simp; omega))) (by kernel_rfl) ?_
   refine aw_skip ?_
   exact ⟨rfl, by (first | (simp; done) | rfl), by (first | (simp; done) | rfl), by (first | (simp [i2]; done) | rfl), by simp [put_at, e2]⟩
  ·have b2 : ((kd : Int) == 2) = false := by rw [beq_eq_false_iff_ne]; omega
   have i2 : ¬ (kd : Int) = 2 := by omega
   (refine aoo fun K hK => ?_; simp (disch := first | omega | (simp only [lnS]; try omega)) [b2, i2]; refine hK _ _ ?_; clear hK K)
   refine aw_f (by (first | (simp; done) | (simp; omega))) (by kernel_rfl) ?_
   refine aw_seq ?_
   by_cases e5 : kd = 5
   ·have b5 : ((kd : Int) == 5) = true := by rw [e5]; rfl
    have i5 : (kd : Int) = 5 := by omega
    (refine aoo fun K hK => ?_; simp (disch := first | omega | (simp only [lnS]; try omega)) [b5, i5]; refine hK _ _ ?_; clear hK K)
    refine aw_t (by (first | (simp; done) | (simp; omega))) (by kernel_rfl) ?_
    refine aw_skip ?_
    exact ⟨rfl, by (first | (simp; done) | rfl), by (first | (simp; done) | rfl), by (first | (simp [i5]; done) | rfl), by simp [put_at, e5]⟩
   ·have b5 : ((kd : Int) == 5) = false := by rw [beq_eq_false_iff_ne]; omega
    have i5 : ¬ (kd : Int) = 5 := by omega
    (refine aoo fun K hK => ?_; simp (disch := first | omega | (simp only [lnS]; try omega)) [b5, i5]; refine hK _ _ ?_; clear hK K)
    refine aw_f (by (first | (simp; done) | (simp; omega))) (by kernel_rfl) ?_
    refine aw_seq ?_
    by_cases e6 : kd = 6
    ·have b6 : ((kd : Int) == 6) = true := by rw [e6]; rfl
     have i6 : (kd : Int) = 6 := by omega
     (refine aoo fun K hK => ?_; simp (disch := first | omega | (simp only [lnS]; try omega)) [b6, i6]; refine hK _ _ ?_; clear hK K)
     refine aw_t (by (first | (simp; done) | (simp; omega))) (by kernel_rfl) ?_
     refine aw_skip ?_
     exact ⟨rfl, by (first | (simp; done) | rfl), by (first | (simp; done) | rfl), by (first | (simp [i6]; done) | rfl), by simp [put_at, e6]⟩
    ·have b6 : ((kd : Int) == 6) = false := by rw [beq_eq_false_iff_ne]; omega
     have i6 : ¬ (kd : Int) = 6 := by omega
     (refine aoo fun K hK => ?_; simp (disch := first | omega | (simp only [lnS]; try omega)) [b6, i6]; refine hK _ _ ?_; clear hK K)
     refine aw_f (by (first | (simp; done) | (simp; omega))) (by kernel_rfl) ?_
     by_cases e3 : kd = 3
     ·have b3 : ((kd : Int) == 3) = true := by rw [e3]; rfl
      have i3 : (kd : Int) = 3 := by omega
      (refine aoo fun K hK => ?_; simp (disch := first | omega | (simp only [lnS]; try omega)) [b3, i3]; refine hK _ _ ?_; clear hK K)
      exact ⟨rfl, by (first | (simp; done) | rfl), by (first | (simp; done) | rfl), by (first | (simp [i3]; done) | rfl), by simp [put_at, e3]⟩
     ·have b3 : ((kd : Int) == 3) = false := by rw [beq_eq_false_iff_ne]; omega
      have i3 : ¬ (kd : Int) = 3 := by omega
      (refine aoo fun K hK => ?_; simp (disch := first | omega | (simp only [lnS]; try omega)) [b3, i3]; refine hK _ _ ?_; clear hK K)
      exact ⟨rfl, by (first | (simp; done) | rfl), by (first | (simp; done) | rfl), by (first | (simp; done) | rfl), by simp [put_at, e2, e3, e5, e6]⟩
 rintro α G ⟨rfl, h0, h3, h8, h9⟩
 clear hH1
 by_cases hk : kd = 2 ∨ kd = 3 ∨ kd = 5 ∨ kd = 6
 ·rw [if_pos hk]
  rw [decide_eq_true hk] at h9
  refine aw_t (by (first | (simp [h9]; done) | (simp [h9]; omega))) (by kernel_rfl) ?_
  refine aw_seq (aw_seq ?_)
  (refine aoo fun K hK => ?_; simp (disch := first | omega | (simp only [lnS]; try omega)) [h3, g3, lg3, -notTuple, hkn.1, hkn.2, -xlen, hlen]; refine hK _ _ ?_; clear hK K)
  refine aw_block ?_
  refine aw_loop (fun q α G1 => ∃ i : Nat, i + q = x.keys.length ∧ Low G.length G G1 ∧ α 0 = .pointer (some ⟨c.sb, 0, none⟩) ∧ α 15 = kv ∧ α 16 = .int .i64 (x.keys.length : Nat) ∧ α 17 = .int .i64 (i : Nat) ∧ (x.keys.take i).all (fol s.1) = true) x.keys.length ?_ ?_
  ·exact ⟨0, by omega, Low.refl (Nat.le_refl _), by (first | (simp [h0]; done) | rfl), by (first | (simp; done) | rfl), by (first | (simp; done) | rfl), by (first | (simp; done) | rfl), rfl⟩
  clear h0 h3 h8 h9
  rintro q α G1 ⟨i, hiq, lwG, h0, h15, h16, h17, hall⟩
  refine aw_seq ?_
  by_cases hi : i < x.keys.length
  case neg =>
   (refine aoo fun K hK => ?_; simp (disch := first | omega | (simp only [lnS]; try omega)) [h16, h17, hi]; refine hK _ _ ?_; clear hK K)
   refine aw_seq ?_
   refine aw_f (by (first | (simp [hi]; done) | (simp [hi]; omega))) (by kernel_rfl) ?_
   refine aw_exit (aw_seq ?_)
   (refine aoo fun K hK => ?_; simp (disch := first | omega | (simp only [lnS]; try omega)) []; refine hK _ _ ?_; clear hK K)
   (refine aw_ret ?_; simp (disch := first | omega | (simp only [lnS]; try omega)) [thenQ_ret, scopeQ_ret, inBlockQ_ret, RQ, resL, resV])
   obtain rfl : i = x.keys.length := by omega
   rw [List.take_length] at hall
   exact List.all_eq_true.1 hall
  obtain ⟨q1, y, r1, r2, r3', r4, r5⟩ := hacc.at_ i hi
  have lwA : Low H.length H G1 := ⟨fun j hj => (lwG.1 j (by omega)).trans (lw1.1 j hj), by have := lwG.2; omega⟩
  have r5 := r5 G1 lwA
  obtain ⟨k32, kby⟩ := hkey i hi
  have hfk := fun (A : AH) (e : hget A c.kb = hget H c.kb) => hf A e _ k32 kby
  have hfd : fol s.1 (x.keys.getD i []) = true → (x.keys.take (i + 1)).all (fol s.1) = true := all_take_snoc hi hall
  have hff : fol s.1 (x.keys.getD i []) = false → x.keys.all (fol s.1) = false := all_out hi
  subst r4
  have l3 := lwG.2
  have s2 := (lwA.1 _ lsb).trans hsb
  have b2 := lwA.1 _ lkb
  generalize x.keys.getD i [] = k at *
  generalize fol s.1 k = fk at *
  have htk : (iv .u8 k).take 32 = iv .u8 k := List.take_of_length_le (by simp [k32])
  have hsr : setR (iv .u8 (zl 32)) 0 (iv .u8 k) = iv .u8 k := setR_all _ _ (by simp [k32])
  (refine aoo fun K hK => ?_; simp (disch := first | omega | (simp only [lnS]; try omega)) [h16, h17, hi]; refine hK _ _ ?_; clear hK K)
  refine aw_seq ?_
  refine aw_t (by (first | (simp [hi]; done) | (simp [hi]; omega))) (by kernel_rfl) ?_
  refine aw_skip (aw_seq ?_)
  refine aw_block ?_
  refine aw_seq ?_
  have hng : H.length ≤ G1.length := by omega
  (refine aoo fun K hK => ?_; simp (disch := first | omega | (simp only [lnS]; try omega)) [h15, h17, -xindexAddr, r1, r2, -xload, r5, -notTuple, hkn.1, htk, hsr, k32, hng]; refine hK _ _ ?_; clear hK K)
  refine aw_seq ?_
  (refine aw_plan [] [] [0, 1, 2, 3, 4, 5, 6] 7 0 (by kernel_rfl) (by kernel_rfl) (by kernel_rfl) (fun K hK => ?_)); simp only [sel, List.getElem?_cons_succ, List.getElem?_cons_zero, List.drop_succ_cons, List.drop_zero]; simp (disch := first | omega | (simp only [lnS]; try omega)) [h0, s2, htk, k32, -notTuple, hnt, hnd, nt_mapG, PL_nil, plainB_lit, PL_cons, PLc_val, PLc_new, stepP_t, stepP_f, stepPC_n, stepPC_s, stepPX_s, stepPX_n, stepPV_n, stepPV_s, stepPA_t, stepPA_c, stepPA_l, stepPN_s, allocOp, reloc_sl, reloc_ptr, List.map_cons, List.map_nil, List.nil_append, List.append_assoc, List.cons_append, Nat.add_assoc]
  refine PLc_call (v := .bool fk) (by kernel_rfl) (fun L hL => hfk _ ?_) (by simp [pv_iv, pv_int, pv_bool, pv_string, pv_tup2, pv_tup3, iv_plain, p2_int, p2_bool, p2_string]) ?_
  ·rw [hget_left (by simp; omega), hget_left (by omega)]
   exact b2
  cases fk with
  | false =>
   simp (disch := first | omega | (simp only [lnS]; try omega)) [PL_nil, plainB_lit, PL_cons, PLc_val, PLc_new, stepP_t, stepP_f, stepPC_n, stepPC_s, stepPX_s, stepPX_n, stepPV_n, stepPV_s, stepPA_t, stepPA_c, stepPA_l, stepPN_s, allocOp, reloc_sl, reloc_ptr, List.map_cons, List.map_nil, List.nil_append, List.append_assoc, List.cons_append, Nat.add_assoc]
   refine hK _ _ ?_; clear hK K
   refine aw_t (by (first | (simp; done) | (simp; omega))) (by kernel_rfl) ?_
   (refine aw_seq (aoo fun K hK => ?_); simp (disch := first | omega | (simp only [lnS]; try omega)) []; refine hK _ _ ?_; clear hK K)
   (refine aw_ret ?_; simp (disch := first | omega | (simp only [lnS]; try omega)) [thenQ_ret, scopeQ_ret, inBlockQ_ret, RQ, resL, resV])
   have := hff rfl
   rw [List.all_eq_false] at this
   obtain ⟨y, hy1, hy2⟩ := this
   exact ⟨y, hy1, by simpa using hy2⟩
  | true =>
   simp (disch := first | omega | (simp only [lnS]; try omega)) [PL_nil, plainB_lit, PL_cons, PLc_val, PLc_new, stepP_t, stepP_f, stepPC_n, stepPC_s, stepPX_s, stepPX_n, stepPV_n, stepPV_s, stepPA_t, stepPA_c, stepPA_l, stepPN_s, allocOp, reloc_sl, reloc_ptr, List.map_cons, List.map_nil, List.nil_append, List.append_assoc, List.cons_append, Nat.add_assoc]
   refine hK _ _ ?_; clear hK K
   refine aw_f (by (first | (simp; done) | (simp; omega))) (by kernel_rfl) ?_
   refine aw_skip ?_
   (refine aoo fun K hK => ?_; simp (disch := first | omega | (simp only [lnS]; try omega)) [h17]; refine hK _ _ ?_; clear hK K)
   exact ⟨q - 1, by omega, i + 1, by omega, ⟨fun j hj => (hget_left (by omega)).trans (lwG.1 j hj), by simp; omega⟩, by (first | (simp [h0]; done) | rfl), by (first | (simp [h15]; done) | rfl), by (first | (simp [h16]; done) | rfl), by (first | (simp; done) | rfl), hfd rfl⟩
 ·rw [if_neg hk]
  rw [decide_eq_false hk] at h9
  refine aw_f (by (first | (simp [h9]; done) | (simp [h9]; omega))) (by kernel_rfl) ?_
  refine aw_seq ?_
  by_cases h4 : kd = 4
  ·rw [if_pos h4]
   have b4 : ((kd : Int) == 4) = true := by rw [h4]; rfl
   have i4 : (kd : Int) = 4 := by omega
   have h2 := hag h4
   obtain ⟨a32, aby⟩ := hkey 0 (by omega)
   obtain ⟨b32, bby⟩ := hkey 1 (by omega)
   obtain ⟨q0, y0, t1, t2, t3, t4, t5⟩ := hacc.at_ 0 (by omega)
   obtain ⟨q1, y1, u1, u2, u3, u4, u5⟩ := hacc.at_ 1 (by omega)
   have t2 : xindexAddr Tryd.prog 34 kv (.int .i64 0) = some q0 := t2
   have u2 : xindexAddr Tryd.prog 34 kv (.int .i64 1) = some q1 := u2
   have t5 := t5 G lw1
   have u5 := u5 G lw1
   subst t4 u4
   generalize x.keys.getD 0 [] = a at *
   generalize x.keys.getD 1 [] = b at *
   have c1 := fun (N : AH) => hacg N a b a32 aby b32 bby
   have c2 := fun (N : AH) => hacg N b a b32 bby a32 aby
   generalize agrS c.T s.1 a b = f1 at *
   generalize agrS c.T s.1 b a = f2 at *
   have ld : xload Tryd.prog 34 (.pointer (some ⟨H.length, 2, none⟩)) G = some kv := by simp [xload, g3]
   (refine aoo fun K hK => ?_; simp (disch := first | omega | (simp only [lnS]; try omega)) [h8, b4, i4]; refine hK _ _ ?_; clear hK K)
   refine aw_t (by (first | (simp; done) | (simp; omega))) (by kernel_rfl) ?_
   refine aw_seq ?_
   (refine aw_plan [] [] [0, 1, 2, 3, 4, 5, 6, 7, 8, 9, 10, 11, 12, 13, 14, 15, 16, 17, 18, 19, 20, 21, 22] 23 0 (by kernel_rfl) (by kernel_rfl) (by kernel_rfl) (fun K hK => ?_)); simp only [sel, List.getElem?_cons_succ, List.getElem?_cons_zero, List.drop_succ_cons, List.drop_zero]; simp (disch := first | omega | (simp only [lnS]; try omega)) [h0, h3, g3, lg3, -notTuple, hkn.1, hkn.2, -xindexAddr, t1, u1, t2, u2, -xload, ld, t5, u5, PL_nil, plainB_lit, PL_cons, PLc_val, PLc_new, stepP_t, stepP_f, stepPC_n, stepPC_s, stepPX_s, stepPX_n, stepPV_n, stepPV_s, stepPA_t, stepPA_c, stepPA_l, stepPN_s, allocOp, reloc_sl, reloc_ptr, List.map_cons, List.map_nil, List.nil_append, List.append_assoc, List.cons_append, Nat.add_assoc]
   refine PLc_call (v := .bool f1) (by kernel_rfl) (fun L hL => c1 L) (by simp [pv_iv, pv_int, pv_bool, pv_string, pv_tup2, pv_tup3, iv_plain, p2_int, p2_bool, p2_string]) ?_
   cases f1 with
   | true =>
    simp (disch := first | omega | (simp only [lnS]; try omega)) [PL_nil, plainB_lit, PL_cons, PLc_val, PLc_new, stepP_t, stepP_f, stepPC_n, stepPC_s, stepPX_s, stepPX_n, stepPV_n, stepPV_s, stepPA_t, stepPA_c, stepPA_l, stepPN_s, allocOp, reloc_sl, reloc_ptr, List.map_cons, List.map_nil, List.nil_append, List.append_assoc, List.cons_append, Nat.add_assoc]
    refine hK _ _ ?_; clear hK K
    (refine aw_ret ?_; simp (disch := first | omega | (simp only [lnS]; try omega)) [thenQ_ret, scopeQ_ret, inBlockQ_ret, RQ, resL, resV])
   | false =>
    simp (disch := first | omega | (simp only [lnS]; try omega)) [h0, h3, g3, lg3, -notTuple, hkn.1, hkn.2, -xindexAddr, t1, u1, t2, u2, -xload, ld, t5, u5, PL_nil, plainB_lit, PL_cons, PLc_val, PLc_new, stepP_t, stepP_f, stepPC_n, stepPC_s, stepPX_s, stepPX_n, stepPV_n, stepPV_s, stepPA_t, stepPA_c, stepPA_l, stepPN_s, allocOp, reloc_sl, reloc_ptr, List.map_cons, List.map_nil, List.nil_append, List.append_assoc, List.cons_append, Nat.add_assoc]
    refine PLc_call (v := .bool f2) (by kernel_rfl) (fun L hL => c2 L) (by simp [pv_iv, pv_int, pv_bool, pv_string, pv_tup2, pv_tup3, iv_plain, p2_int, p2_bool, p2_string]) ?_
    simp (disch := first | omega | (simp only [lnS]; try omega)) [PL_nil, plainB_lit, PL_cons, PLc_val, PLc_new, stepP_t, stepP_f, stepPC_n, stepPC_s, stepPX_s, stepPX_n, stepPV_n, stepPV_s, stepPA_t, stepPA_c, stepPA_l, stepPN_s, allocOp, reloc_sl, reloc_ptr, List.map_cons, List.map_nil, List.nil_append, List.append_assoc, List.cons_append, Nat.add_assoc]
    refine hK _ _ ?_; clear hK K
    (refine aw_ret ?_; simp (disch := first | omega | (simp only [lnS]; try omega)) [thenQ_ret, scopeQ_ret, inBlockQ_ret, RQ, resL, resV])
  ·rw [if_neg h4]
   have b4 : ((kd : Int) == 4) = false := by rw [beq_eq_false_iff_ne]; omega
   have i4 : ¬ (kd : Int) = 4 := by omega
   (refine aoo fun K hK => ?_; simp (disch := first | omega | (simp only [lnS]; try omega)) [h8, b4, i4]; refine hK _ _ ?_; clear hK K)
   refine aw_f (by (first | (simp; done) | (simp; omega))) (by kernel_rfl) ?_
   refine aw_skip (aw_seq ?_)
   (refine aoo fun K hK => ?_; simp (disch := first | omega | (simp only [lnS]; try omega)) []; refine hK _ _ ?_; clear hK K)
   (refine aw_ret ?_; simp (disch := first | omega | (simp only [lnS]; try omega)) [thenQ_ret, scopeQ_ret, inBlockQ_ret, RQ, resL, resV])
end
section
theorem kr_dropV {S : List (List Int)} (h : K32 S) {k : Nat} (hk : k ≤ S.length) : (kr S).drop (k * 32) = kr (S.drop k) := by
 have e : kr S = kr (S.take k) ++ kr (S.drop k) := by rw [← kr_app, List.take_append_drop]
 have hl : (kr (S.take k)).length = k * 32 := by rw [kr_len (fun y hy => h y (List.mem_of_mem_take hy)), List.length_take, Nat.min_eq_left hk]
 rw [e, ← hl, List.drop_left]
theorem suf_keys {H : AH} {kv : Value} {ks : List (List Int)} {Fx : List Nat} (h : OwnF H kv 41 32 (kr ks) Fx) (hk : K32 ks) (h2 : 2 ≤ ks.length) :
  ∃ sv, (∀ G : AH, xslice Tryd.prog 34 kv (some (.int .i64 2)) none G = some sv) ∧ notTuple sv = true ∧ sv.cells = #[sv] ∧ xlen Tryd.prog 34 sv = some (.int .i64 ((ks.length - 2 : Nat) : Int)) ∧ PartK H H.length sv (ks.drop 2) ∧
   ∀ i, i < ks.length - 2 → ∃ q, xindexAddr Tryd.prog 34 sv (.int .i64 (i : Nat)) = some q ∧ notTuple q = true ∧ ∀ G : AH, (∀ j ∈ Fx, hget G j = hget H j) → xload Tryd.prog 41 q G = some (.agg (iv .u8 ((ks.drop 2).getD i [])).toArray) := by
 have hu : und Tryd.prog 34 = .slice 41 := by kernel_rfl
 have hs : szt Tryd.prog 41 = 32 := by kernel_rfl
 have hkl := kr_len hk
 rcases h with ⟨_, h3, _⟩ | ⟨j, len, rfl, h3, h4, rfl⟩
 ·rw [h3] at hkl
  simp at hkl
  omega
 ·have hln : len = ks.length := by omega
  subst hln
  have hj := hget_lt h3
  by_cases e : ks.length = 2
  ·refine ⟨.slice (some ⟨j, 0, some 0⟩) 0 0, fun G => ?_, rfl, rfl, ?_, ⟨⟨some ⟨j, 0, some 0⟩, 0, ?_⟩, fun G hG => ?_⟩, fun i hi => by omega⟩
   ·unfold xslice
    simp only [hu, bnd, hs]
    rw [show asInt? (Value.int .i64 2) = some 2 from rfl]
    dsimp only
    rw [if_pos ⟨by omega, by omega, by omega, by omega⟩, if_pos ⟨by omega, by omega⟩]
   ·unfold xlen
    simp only [hu]
    rw [e]
   ·rw [List.length_drop, e]
   ·have : ks.drop 2 = [] := List.eq_nil_of_length_eq_zero (by rw [List.length_drop]; omega)
    rw [this]; rfl
  ·refine ⟨.slice (some ⟨j, 64, none⟩) (ks.length - 2) (ks.length - 2), fun G => ?_, rfl, rfl, ?_, ⟨⟨some ⟨j, 64, none⟩, _, by rw [List.length_drop]⟩, fun G hG => ?_⟩, fun i hi => ⟨.pointer (some ⟨j, 64 + i * 32, none⟩), ?_, rfl, fun G hG => ?_⟩⟩
   ·unfold xslice
    simp only [hu, bnd, hs]
    rw [show asInt? (Value.int .i64 2) = some 2 from rfl]
    dsimp only
    rw [if_pos ⟨by omega, by omega, by omega, by omega⟩, if_neg (by omega), if_pos trivial]
    simp
   ·unfold xlen
    simp only [hu]
   ·have hg := (hG j hj).trans h3
    unfold xcells
    simp only [hg]
    rw [if_pos (by rw [hkl]; omega), show (64 : Nat) = 2 * 32 by rfl, kr_dropV hk h2]
    rw [List.take_of_length_le]
    rw [kr_len (fun k hm => hk k (List.mem_of_mem_drop hm)), List.length_drop]
    exact Nat.le_refl _
   ·unfold xindexAddr
    simp only [hu, hs]
    rw [if_pos ⟨by omega, by omega, by omega⟩]
    simp
   ·have hg := (hG j (by simp)).trans h3
    have hgk : ks[2 + i]? = some ((ks.drop 2).getD i []) := by
     rw [List.getD_eq_getElem?_getD, List.getElem?_drop, List.getElem?_eq_getElem (by omega)]
     rfl
    have := kr_load hk hgk hg
    rwa [show (2 + i) * 32 = 64 + i * 32 by omega] at this
theorem try_ac {γ : Nat → Option Nat} {nro : Nat} {H : AH} {c : SrC} {F : List Nat} {s : FSt} (h : SR γ nro H c F s) {i : Nat} (hi : i < c.L.length) :
  AC Tryd.prog nro γ 42 #[.pointer (some ⟨c.sb, 0, none⟩), .int .i64 (i : Nat)] H (SRQ γ nro H c F (tryS c.T s i)) := by
 obtain ⟨tdv, hsb, hnd, hkb, hsl, hbl, hnt, hcs⟩ := h.blocks
 have hn := h.n
 obtain ⟨⟨kv, x⟩, hp⟩ : ∃ p, c.L[i]? = some p := ⟨_, List.getElem?_eq_getElem hi⟩
 have hmem := List.mem_of_getElem? hp
 have hkn := h.st.tb.key_nt hmem
 obtain ⟨q, a1, a2, a3⟩ := h.st.tb.at_ hp
 have a3 : xload Tryd.prog 92 q H = some (.agg (tmRow kv x).toArray) := by simpa using a3 []
 have hx : trm c.T i = x := trm_of (by unfold SrC.T; rw [List.getElem?_map, hp]; rfl)
 have hmk := makes_rc h hmem
 have hcell : (bsC s.1)[i]? = some (.bool (kw s.1 i)) := bsC_get (kw_get (by omega))
 have ld0 : xload Tryd.prog 30 (.pointer (some ⟨c.sb, 0, none⟩)) H = some c.tv := by simp [xload, hsb]
 have ld3 : xload Tryd.prog 55 (.pointer (some ⟨c.sb, 3, none⟩)) H = some (.slice (some ⟨c.kb, 0, none⟩) c.L.length c.L.length) := by simp [xload, hsb]
 have ldk : xload Tryd.prog 4 (.pointer (some ⟨c.kb, i, none⟩)) H = some (.bool (kw s.1 i)) := by
  have : i + 1 ≤ (bsC s.1).length := by omega
  simp [xload, hkb, hcell, this]
 have ia : xindexAddr Tryd.prog 55 (.slice (some ⟨c.kb, 0, none⟩) c.L.length c.L.length) (.int .i64 (i : Nat)) = some (.pointer (some ⟨c.kb, i, none⟩)) := by
  have : (i : Int) < c.L.length := by omega
  simp [xindexAddr, hi, this]
 have hsame := fun (G : AH) (lw : Low H.length H G) => h.same lw
 have hlr := learnS_ac h (nmL_len i) (nmL_by i)
 have hnm := name_rc (γ := γ) (H := H) (n := (i : Nat)) ⟨by omega, by omega⟩
 unfold tryS
 rw [hx]
 unfold tmRow at *
 generalize kw s.1 i = b at *
 generalize mks c.T s.1 x = m at *
 have lN : (nmL (i : Nat)).length = 32 := rfl
 generalize nmL (i : Nat) = N at *
 have ht : (iv .u8 N).take 32 = iv .u8 N := List.take_of_length_le (by simp [lN])
 cases b with
 | true =>
  rw [if_neg (fun e => by cases e.1)]
  refine ac_of_aw Tryd.func42 rfl Tryd.ntmps42 Tryd.results42 (by simp) ?_
  (refine aw_seq (aoo fun K hK => ?_); simp (disch := first | omega | (simp only [lnS]; try omega)) [hi, -xload, ld0, ld3, ldk, -notTuple, hnt]; refine hK _ _ ?_; clear hK K)
  refine aw_f (by (first | (simp; done) | (simp; omega))) (by kernel_rfl) ?_
  refine aw_skip ?_
  exact ⟨[], _, rfl, rfl, hsame _ (Low.refl (Nat.le_refl _))⟩
 | false =>
  refine ac_of_aw Tryd.func42 rfl Tryd.ntmps42 Tryd.results42 (by simp) ?_
  refine aw_seq (aoo fun K hK => ?_)
  simp (disch := first | omega | (simp only [lnS]; try omega)) [hi, -xload, ld0, ld3, ldk, a3, -xindexAddr, ia, a1, a2, -notTuple, hnt, hkn.1]
  refine ⟨by kernel_rfl, ac_of_rc hmk (by simp [pv_iv, pv_int, pv_bool, pv_string, pv_tup2, pv_tup3, iv_plain, p2_int, p2_bool, p2_string]) ?_⟩
  cases m with
  | false =>
   rw [if_neg (fun e => by cases e.2)] at *
   try simp (disch := first | omega | (simp only [lnS]; try omega)) []
   refine hK _ _ ?_; clear hK K
   refine aw_f (by (first | (simp; done) | (simp; omega))) (by kernel_rfl) ?_
   refine aw_skip ?_
   exact ⟨[], _, rfl, rfl, hsame _ (Low.refl (Nat.le_refl _))⟩
  | true =>
   rw [if_pos ⟨rfl, rfl⟩] at *
   try simp (disch := first | omega | (simp only [lnS]; try omega)) []
   refine hK _ _ ?_; clear hK K
   refine aw_t (by (first | (simp; done) | (simp; omega))) (by kernel_rfl) ?_
   refine aoo fun K hK => ?_
   simp (disch := first | omega | (simp only [lnS]; try omega)) []
   refine ⟨by kernel_rfl, ac_of_rc hnm (by simp [pv_iv]) ?_⟩
   try simp (disch := first | omega | (simp only [lnS]; try omega)) [lN, ht]
   refine ⟨by kernel_rfl, AC.mono hlr ?_⟩
   intro v' G hq
   obtain rfl := hq.1
   try simp (disch := first | omega | (simp only [lnS]; try omega)) []
   refine hK _ _ ?_; clear hK K
   exact ⟨[], _, rfl, rfl, hq⟩
end
section
theorem fold_take {α β : Type} {f : β → α → β} {l : List α} {i : Nat} {b : β} {d : α} (hi : i < l.length) : (l.take (i + 1)).foldl f b = f ((l.take i).foldl f b) (l.getD i d) := by
 rw [List.take_add_one, List.foldl_append, List.getElem?_eq_getElem hi, List.getD_eq_getElem?_getD, List.getElem?_eq_getElem hi]
 rfl
theorem opn_ac {γ : Nat → Option Nat} {nro : Nat} {H : AH} {c : SrC} {F : List Nat} {s : FSt} (h : SR γ nro H c F s) {i : Nat} (hi : i < c.L.length) :
  AC Tryd.prog nro γ 61 #[.pointer (some ⟨c.sb, 0, none⟩), .int .i64 (i : Nat)] H (SRQ γ nro H c F (opnS c.T s i)) := by
 obtain ⟨tdv, hsb, hnd, hkb, hsl, hbl, hnt, hcs⟩ := h.blocks
 have hn := h.n
 have hnH := h.nH
 obtain ⟨⟨kv, x⟩, hp⟩ : ∃ p, c.L[i]? = some p := ⟨_, List.getElem?_eq_getElem hi⟩
 have hmem := List.mem_of_getElem? hp
 have hkn := h.st.tb.key_nt hmem
 have hw : x.Wf := h.st.tb.wf _ hmem
 obtain ⟨Fx, hox, hFx⟩ := h.st.tb.keys _ hmem
 have hxS : ∀ j ∈ Fx, j ∉ F ∧ j < H.length := fun j hj => h.ap j (h.st.tS j (by simp [hFx j hj]))
 have hKs : KsV H kv x.keys := kr_ksv hox hw.k32
 have hacc := hKs.acc hw.k32
 have hmk := hw.many
 have h6k := hw.seal_
 obtain ⟨q, a1, a2, a3⟩ := h.st.tb.at_ hp
 have a3 : xload Tryd.prog 92 q H = some (.agg (tmRow kv x).toArray) := by simpa using a3 []
 have hx : trm c.T i = x := trm_of (by unfold SrC.T; rw [List.getElem?_map, hp]; rfl)
 have hcell : (bsC s.1)[i]? = some (.bool (kw s.1 i)) := bsC_get (kw_get (by omega))
 have lsb := hget_lt hsb
 have lkb := hget_lt hkb
 have p1 : plain1 (.slice none 0 0) = true := rfl
 have r3 : List.range 3 = [0, 1, 2] := rfl
 have hsame := fun (G : AH) (lw : Low H.length H G) => h.same lw
 have ia : xindexAddr Tryd.prog 55 (.slice (some ⟨c.kb, 0, none⟩) c.L.length c.L.length) (.int .i64 (i : Nat)) = some (.pointer (some ⟨c.kb, i, none⟩)) := by
  have : (i : Int) < c.L.length := by omega
  simp [xindexAddr, hi, this]
 have ld0 : xload Tryd.prog 30 (.pointer (some ⟨c.sb, 0, none⟩)) H = some c.tv := by simp [xload, hsb]
 obtain ⟨H1, hH1⟩ : ∃ H1 : AH, H1 = H ++ [some ⟨[.int .i64 (x.kind : Nat), .string x.text, kv], 92, none⟩] := ⟨_, rfl⟩
 have kj : ∀ j, j < H.length → hget H1 j = hget H j := fun j hj => by rw [hH1]; exact hget_left hj
 have g3 : hget H1 H.length = some ⟨[.int .i64 (x.kind : Nat), .string x.text, kv], 92, none⟩ := by rw [hH1, hget_app0]; rfl
 have l1 : H1.length = H.length + 1 := by rw [hH1]; simp
 have lw1 : Low H.length H H1 := ⟨kj, by omega⟩
 have s1 := (kj _ lsb).trans hsb
 have b1 := kj _ lkb
 have kb1 := b1.trans hkb
 have lg3 := hget_lt g3
 have ld3 : xload Tryd.prog 55 (.pointer (some ⟨c.sb, 3, none⟩)) H1 = some (.slice (some ⟨c.kb, 0, none⟩) c.L.length c.L.length) := by simp [xload, s1]
 have ldb : xload Tryd.prog 4 (.pointer (some ⟨c.kb, i, none⟩)) H1 = some (.bool (kw s.1 i)) := by
  have : i + 1 ≤ (bsC s.1).length := by omega
  simp [xload, kb1, hcell, this]
 have ldt : xload Tryd.prog 3 (.pointer (some ⟨H.length, 0, none⟩)) H1 = some (.int .i64 (x.kind : Nat)) := by simp [xload, g3]
 have ldk : xload Tryd.prog 34 (.pointer (some ⟨H.length, 2, none⟩)) H1 = some kv := by simp [xload, g3]
 unfold opnS k0
 rw [hx]
 unfold tmRow at *
 generalize hkw : kw s.1 i = b at *
 by_cases h6 : x.kind = 6
 case neg =>
  have b6 : ((x.kind : Int) == 6) = false := by rw [beq_eq_false_iff_ne]; omega
  have i6 : ¬ (x.kind : Int) = 6 := by omega
  rw [if_neg (fun e => h6 e.1)]
  generalize x.kind = kd at *
  refine ac_of_aw Tryd.func61 rfl Tryd.ntmps61 Tryd.results61 (by simp) ?_
  (refine aw_seq (aoo fun K hK => ?_); simp (disch := first | omega | (simp only [lnS]; try omega)) [hi, -xload, ld0, a3, -xindexAddr, a1, a2, p1, r3, -notTuple, hnt, hkn.1, hkn.2]; refine hK _ _ ?_; clear hK K)
  rw [← hH1]
  refine aw_seq (aw_seq ?_)
  (refine aw_plan [] [] [0, 1, 2, 3, 4, 5, 6, 7, 8, 9, 10, 11, 12, 13, 14, 15, 16, 17, 18, 19, 20, 21, 22, 23, 24] 25 0 (by kernel_rfl) (by kernel_rfl) (by kernel_rfl) (fun K hK => ?_)); simp only [sel, List.getElem?_cons_succ, List.getElem?_cons_zero, List.drop_succ_cons, List.drop_zero]; simp (disch := first | omega | (simp only [lnS]; try omega)) [-xload, ldt, b6, i6, -notTuple, PL_nil, plainB_lit, PL_cons, PLc_val, PLc_new, stepP_t, stepP_f, stepPC_n, stepPC_s, stepPX_s, stepPX_n, stepPV_n, stepPV_s, stepPA_t, stepPA_c, stepPA_l, stepPN_s, allocOp, reloc_sl, reloc_ptr, List.map_cons, List.map_nil, List.nil_append, List.append_assoc, List.cons_append, Nat.add_assoc]
  refine hK _ _ ?_; clear hK K
  refine aw_t (by (first | (simp; done) | (simp; omega))) (by kernel_rfl) ?_
  refine aw_ret ?_
  exact ⟨[], _, rfl, rfl, hsame _ lw1⟩
 have h2 := h6k h6
 have b6 : ((x.kind : Int) == 6) = true := by rw [h6]; rfl
 have i6 : (x.kind : Int) = 6 := by omega
 obtain ⟨k32, kby⟩ : (x.keys.getD 0 []).length = 32 ∧ By (x.keys.getD 0 []) := by
  rw [List.getD_eq_getElem?_getD, List.getElem?_eq_getElem (by omega)]
  exact ⟨hw.k32 _ (List.getElem_mem _), hw.by_ _ (List.getElem_mem _)⟩
 obtain ⟨q0, y0, t1, t2, t3, t4, t5⟩ := hacc.at_ 0 (by omega)
 have t2 : xindexAddr Tryd.prog 34 kv (.int .i64 0) = some q0 := t2
 have t5 := t5 H1 lw1
 subst t4
 have hfk := fun (G : AH) (e : hget G c.kb = hget H c.kb) => follows_rc (γ := γ) (H := G) (n := c.L.length) (e.trans hkb) hsl hn k32 kby
 generalize x.keys.getD 0 [] = k at *
 generalize fol s.1 k = fk at *
 cases b with
 | false =>
  rw [if_neg (fun e => by cases e.2.1)]
  generalize x.kind = kd at *
  refine ac_of_aw Tryd.func61 rfl Tryd.ntmps61 Tryd.results61 (by simp) ?_
  (refine aw_seq (aoo fun K hK => ?_); simp (disch := first | omega | (simp only [lnS]; try omega)) [hi, -xload, ld0, a3, -xindexAddr, a1, a2, p1, r3, -notTuple, hnt, hkn.1, hkn.2]; refine hK _ _ ?_; clear hK K)
  rw [← hH1]
  refine aw_seq (aw_seq ?_)
  (refine aw_plan [] [] [0, 1, 2, 3, 4, 5, 6, 7, 8, 9, 10, 11, 12, 13, 14, 15, 16, 17, 18, 19, 20, 21, 22, 23, 24] 25 0 (by kernel_rfl) (by kernel_rfl) (by kernel_rfl) (fun K hK => ?_)); simp only [sel, List.getElem?_cons_succ, List.getElem?_cons_zero, List.drop_succ_cons, List.drop_zero]; simp (disch := first | omega | (simp only [lnS]; try omega)) [-xload, ldt, ld3, ldb, b6, i6, -xindexAddr, ia, -notTuple, PL_nil, plainB_lit, PL_cons, PLc_val, PLc_new, stepP_t, stepP_f, stepPC_n, stepPC_s, stepPX_s, stepPX_n, stepPV_n, stepPV_s, stepPA_t, stepPA_c, stepPA_l, stepPN_s, allocOp, reloc_sl, reloc_ptr, List.map_cons, List.map_nil, List.nil_append, List.append_assoc, List.cons_append, Nat.add_assoc]
  refine hK _ _ ?_; clear hK K
  refine aw_t (by (first | (simp; done) | (simp; omega))) (by kernel_rfl) ?_
  refine aw_ret ?_
  exact ⟨[], _, rfl, rfl, hsame _ lw1⟩
 | true =>
  cases fk with
  | false =>
   rw [if_neg (fun e => by cases e.2.2)]
   generalize x.kind = kd at *
   refine ac_of_aw Tryd.func61 rfl Tryd.ntmps61 Tryd.results61 (by simp) ?_
   (refine aw_seq (aoo fun K hK => ?_); simp (disch := first | omega | (simp only [lnS]; try omega)) [hi, -xload, ld0, a3, -xindexAddr, a1, a2, p1, r3, -notTuple, hnt, hkn.1, hkn.2]; refine hK _ _ ?_; clear hK K)
   rw [← hH1]
   refine aw_seq (aw_seq ?_)
   (refine aw_plan [] [] [0, 1, 2, 3, 4, 5, 6, 7, 8, 9, 10, 11, 12, 13, 14, 15, 16, 17, 18, 19, 20, 21, 22, 23, 24] 25 0 (by kernel_rfl) (by kernel_rfl) (by kernel_rfl) (fun K hK => ?_)); simp only [sel, List.getElem?_cons_succ, List.getElem?_cons_zero, List.drop_succ_cons, List.drop_zero]; simp (disch := first | omega | (simp only [lnS]; try omega)) [-xload, ldt, ld3, ldb, ldk, t5, b6, i6, -xindexAddr, ia, t1, t2, -notTuple, hkn.1, PL_nil, plainB_lit, PL_cons, PLc_val, PLc_new, stepP_t, stepP_f, stepPC_n, stepPC_s, stepPX_s, stepPX_n, stepPV_n, stepPV_s, stepPA_t, stepPA_c, stepPA_l, stepPN_s, allocOp, reloc_sl, reloc_ptr, List.map_cons, List.map_nil, List.nil_append, List.append_assoc, List.cons_append, Nat.add_assoc]
   refine PLc_call (v := .bool false) (by kernel_rfl) (fun L hL => hfk _ ?_) (by simp [pv_iv, pv_int, pv_bool, pv_string, pv_tup2, pv_tup3, iv_plain, p2_int, p2_bool, p2_string]) ?_
   ·rw [hget_left (by omega)]
    exact b1
   simp (disch := first | omega | (simp only [lnS]; try omega)) [PL_nil, plainB_lit, PL_cons, PLc_val, PLc_new, stepP_t, stepP_f, stepPC_n, stepPC_s, stepPX_s, stepPX_n, stepPV_n, stepPV_s, stepPA_t, stepPA_c, stepPA_l, stepPN_s, allocOp, reloc_sl, reloc_ptr, List.map_cons, List.map_nil, List.nil_append, List.append_assoc, List.cons_append, Nat.add_assoc]
   refine hK _ _ ?_; clear hK K
   refine aw_t (by (first | (simp; done) | (simp; omega))) (by kernel_rfl) ?_
   refine aw_ret ?_
   exact ⟨[], _, rfl, rfl, hsame _ lw1⟩
  | true =>
   rw [if_pos ⟨h6, rfl, rfl⟩]
   obtain ⟨sv, v1, v2, v3, v4, v5, v6⟩ := suf_keys hox hw.k32 h2
   have hkey : ∀ j, j < x.keys.length - 2 → ((x.keys.drop 2).getD j []).length = 32 ∧ By ((x.keys.drop 2).getD j []) := fun j hj => by
    rw [List.getD_eq_getElem?_getD, List.getElem?_drop, List.getElem?_eq_getElem (by omega)]
    exact ⟨hw.k32 _ (List.getElem_mem _), hw.by_ _ (List.getElem_mem _)⟩
   have hdl : (x.keys.drop 2).length = x.keys.length - 2 := List.length_drop
   have hsl2 := v1 H1
   have h0 : SRQ γ nro H1 c F s (.tuple #[]) H1 := (h.lay lw1).same (Low.refl (Nat.le_refl _))
   have hup := fun (t : FSt) (G : AH) (q : SRQ γ nro H1 c F t (.tuple #[]) G) => q.up lw1 h.bound
   generalize x.keys.drop 2 = ks at *
   have hm9 : x.keys.length - 2 ≤ 1000000 := by omega
   generalize x.keys.length - 2 = m at *
   generalize x.kind = kd at *
   refine ac_of_aw Tryd.func61 rfl Tryd.ntmps61 Tryd.results61 (by simp) ?_
   (refine aw_seq (aoo fun K hK => ?_); simp (disch := first | omega | (simp only [lnS]; try omega)) [hi, -xload, ld0, a3, -xindexAddr, a1, a2, p1, r3, -notTuple, hnt, hkn.1, hkn.2]; refine hK _ _ ?_; clear hK K)
   rw [← hH1]
   refine aw_seq (aw_seq ?_)
   (refine aw_plan [] [] [0, 1, 2, 3, 4, 5, 6, 7, 8, 9, 10, 11, 12, 13, 14, 15, 16, 17, 18, 19, 20, 21, 22, 23, 24] 25 0 (by kernel_rfl) (by kernel_rfl) (by kernel_rfl) (fun K hK => ?_)); simp only [sel, List.getElem?_cons_succ, List.getElem?_cons_zero, List.drop_succ_cons, List.drop_zero]; simp (disch := first | omega | (simp only [lnS]; try omega)) [-xload, ldt, ld3, ldb, ldk, t5, b6, i6, -xindexAddr, ia, t1, t2, -notTuple, hkn.1, PL_nil, plainB_lit, PL_cons, PLc_val, PLc_new, stepP_t, stepP_f, stepPC_n, stepPC_s, stepPX_s, stepPX_n, stepPV_n, stepPV_s, stepPA_t, stepPA_c, stepPA_l, stepPN_s, allocOp, reloc_sl, reloc_ptr, List.map_cons, List.map_nil, List.nil_append, List.append_assoc, List.cons_append, Nat.add_assoc]
   refine PLc_call (v := .bool true) (by kernel_rfl) (fun L hL => hfk _ ?_) (by simp [pv_iv, pv_int, pv_bool, pv_string, pv_tup2, pv_tup3, iv_plain, p2_int, p2_bool, p2_string]) ?_
   ·rw [hget_left (by omega)]
    exact b1
   simp (disch := first | omega | (simp only [lnS]; try omega)) [PL_nil, plainB_lit, PL_cons, PLc_val, PLc_new, stepP_t, stepP_f, stepPC_n, stepPC_s, stepPX_s, stepPX_n, stepPV_n, stepPV_s, stepPA_t, stepPA_c, stepPA_l, stepPN_s, allocOp, reloc_sl, reloc_ptr, List.map_cons, List.map_nil, List.nil_append, List.append_assoc, List.cons_append, Nat.add_assoc]
   refine hK _ _ ?_; clear hK K
   refine aw_f (by (first | (simp; done) | (simp; omega))) (by kernel_rfl) ?_
   refine aw_skip (aw_seq ?_)
   (refine aoo fun K hK => ?_; simp (disch := first | omega | (simp only [lnS]; try omega)) [-xload, ldk, -xslice, hsl2, -xlen, v4, -notTuple, hkn.1, v2]; refine hK _ _ ?_; clear hK K)
   refine aw_block ?_
   refine aw_loop (fun q α G => ∃ i : Nat, i + q = m ∧ α 0 = .pointer (some ⟨c.sb, 0, none⟩) ∧ α 41 = sv ∧ α 42 = .int .i64 (m : Nat) ∧ α 43 = .int .i64 (i : Nat) ∧ SRQ γ nro H1 c F ((ks.take i).foldl lrn s) (.tuple #[]) G) m ?_ ?_
   ·exact ⟨0, by omega, by (first | (simp; done) | rfl), by (first | (simp; done) | rfl), by (first | (simp; done) | rfl), by (first | (simp; done) | rfl), h0⟩
   rintro q α G ⟨j, hjq, e0, e41, e42, e43, hq⟩
   refine aw_seq ?_
   by_cases hj : j < m
   case neg =>
    (refine aoo fun K hK => ?_; simp (disch := first | omega | (simp only [lnS]; try omega)) [e42, e43, hj]; refine hK _ _ ?_; clear hK K)
    refine aw_seq ?_
    refine aw_f (by (first | (simp [hj]; done) | (simp [hj]; omega))) (by kernel_rfl) ?_
    refine aw_exit ?_
    obtain rfl : j = m := by omega
    rw [← hdl, List.take_length] at hq
    exact ⟨[], _, rfl, rfl, hup _ _ hq⟩
   obtain ⟨_, hGl, hGk, F', hS, hF'⟩ := hq
   obtain ⟨q1, w1, w2, w3⟩ := v6 j hj
   have w3 := w3 G (fun j hj => (hGk j (by have := (hxS j hj).2; omega) (hxS j hj).1).trans (kj j (hxS j hj).2))
   obtain ⟨kk32, kkb⟩ := hkey j hj
   have hfd := fold_take (f := lrn) (b := s) (d := []) (show j < ks.length by omega)
   generalize ks.getD j [] = z at *
   have htz : (iv .u8 z).take 32 = iv .u8 z := List.take_of_length_le (by simp [kk32])
   have hsz : setR (iv .u8 (zl 32)) 0 (iv .u8 z) = iv .u8 z := setR_all _ _ (by simp [kk32])
   have hng : nro ≤ G.length := by omega
   (refine aoo fun K hK => ?_; simp (disch := first | omega | (simp only [lnS]; try omega)) [e42, e43, hj]; refine hK _ _ ?_; clear hK K)
   refine aw_seq ?_
   refine aw_t (by (first | (simp [hj]; done) | (simp [hj]; omega))) (by kernel_rfl) ?_
   refine aw_skip (aw_seq ?_)
   refine aw_block ?_
   (refine aw_seq (aoo fun K hK => ?_); simp (disch := first | omega | (simp only [lnS]; try omega)) [e41, e43, -xindexAddr, w1, w2, -xload, w3, -notTuple, v2, htz, hsz, kk32, hng]; refine hK _ _ ?_; clear hK K)
   have hz := learnS_ac (hS.push [some ⟨iv .u8 z, 41, none⟩]) kk32 kkb
   refine aoo fun K hK => ?_
   simp (disch := first | omega | (simp only [lnS]; try omega)) [e0, htz, kk32]
   refine ⟨by kernel_rfl, AC.mono hz ?_⟩
   intro v' A q2
   obtain rfl := q2.1
   try simp (disch := first | omega | (simp only [lnS]; try omega)) []
   refine hK _ _ ?_; clear hK K
   (refine aoo fun K hK => ?_; simp (disch := first | omega | (simp only [lnS]; try omega)) [e43]; refine hK _ _ ?_; clear hK K)
   refine ⟨q - 1, by omega, j + 1, by omega, by (first | (simp [e0]; done) | rfl), by (first | (simp [e41]; done) | rfl), by (first | (simp [e42]; done) | rfl), by (first | (simp; done) | rfl), ?_⟩
   rw [hfd]
   exact (q2.up ⟨fun j hj => hget_left hj, by simp⟩ hS.bound).then_ hGl hGk hF'
end
section
theorem users_len {k : List Int} {M : Nat} : ∀ {T : List TermD} {n : Nat}, (∀ x ∈ T, x.keys.length ≤ M) → (usersF k n T).length ≤ T.length * M
 | [], n, _ => by simp [usersF]
 | x :: T, n, h => by
  have h1 := users_len (k := k) (M := M) (T := T) (n := n + 1) (fun y hy => h y (by simp [hy]))
  have h2 := h x (by simp)
  have h3 : (x.keys.filter (· = k)).length ≤ x.keys.length := List.length_filter_le _ _
  unfold usersF
  rw [List.length_append, List.length_map, List.length_cons, Nat.succ_mul]
  omega
theorem SR.users_le {γ : Nat → Option Nat} {nro : Nat} {H : AH} {c : SrC} {F : List Nat} {s : FSt} (h : SR γ nro H c F s) (k : List Int) : (usersF k 0 c.T).length ≤ 1000000000000 := by
 have h1 := users_len (k := k) (n := 0) (M := 1000000) (T := c.T) (fun x hx => by
  obtain ⟨p, hp, rfl⟩ := List.mem_map.1 hx
  exact (h.st.tb.wf p hp).many)
 have h2 : c.T.length = c.L.length := by simp [SrC.T]
 have h3 := h.n
 have h4 : c.T.length * 1000000 ≤ 1000000 * 1000000 := Nat.mul_le_mul_right _ (by omega)
 omega
def okAll (okI : List Nat → Nat → Bool) : List Nat → List Nat → Bool
 | _, [] => true
 | D, i :: r => okI D i && okAll okI (i :: D) r
theorem tab_run {TB : List (List Nat × List Tmp × List (List Nat))} {C : List Nat → List Tmp → List Nat → Bool} {R : (List Nat × List Tmp × List (List Nat)) → List Nat → Prop} (hok : (TB.all fun p => p.2.2.all fun o => C p.1 p.2.1 o) = true) (h : ∀ p ∈ TB, ∀ o ∈ p.2.2, C p.1 p.2.1 o = true → R p o) : ∀ p ∈ TB, ∀ o ∈ p.2.2, R p o :=
 fun p hp o ho => h p hp o ho (List.all_eq_true.1 (List.all_eq_true.1 hok p hp) o ho)
theorem ord_run {P : Program} {nro n : Nat} {γ : Nat → Option Nat} {ops : Array Oper} {K : Fm → AH → Prop} {l : List Oper} {okI : List Nat → Nat → Bool} {J : List Nat → Fm → AH → Prop} (hl : ∀ D i, okI D i = true → (l[i]?).isSome = true)
  (hs : ∀ (i : Nat) (D : List Nat) (α : Fm) (G : AH) (rest : List Oper), J D α G → okI D i = true → (∀ α' G', J (i :: D) α' G' → XL P nro n γ ops K rest α' G') → XL P nro n γ ops K (sel l [i] ++ rest) α G)
  : ∀ (o D : List Nat) (α : Fm) (G : AH), okAll okI D o = true → J D α G → (∀ (E : List Nat) (α' : Fm) (G' : AH), J E α' G' → (∀ k ∈ o, k ∈ E) → (∀ k ∈ D, k ∈ E) → K α' G') → XL P nro n γ ops K (sel l o) α G
 | [], D, α, G, _, h, hK => hK D α G h (by simp) (by simp)
 | i :: r, D, α, G, hok, h, hK => by
  simp only [okAll, Bool.and_eq_true] at hok
  have e : sel l (i :: r) = sel l [i] ++ sel l r := by
   have hsome := hl D i hok.1
   cases hi : l[i]? with
   | none => rw [hi] at hsome; cases hsome
   | some o => simp [sel, hi]
  rw [e]
  refine hs i D α G _ h hok.1 fun α' G' h' => ord_run hl hs r (i :: D) α' G' hok.2 h' fun E α2 G2 h2 h3 h4 => hK E α2 G2 h2 (fun k hk => ?_) (fun k hk => h4 k (by simp [hk]))
  rcases List.mem_cons.1 hk with rfl | hk
  ·exact h4 _ (by simp)
  ·exact h3 k hk
def okU (D : List Nat) (i : Nat) : Bool := match i with
 | 2 => true
 | 3 => D.contains 2
 | 4 => D.contains 3
 | 5 => D.contains 4
 | 6 => true
 | 7 => D.contains 5 && D.contains 6
 | 8 => D.contains 7
 | 11 => !(D.contains 11)
 | 12 => D.contains 8 && !(D.contains 12)
 | _ => false
def dU (u : List Nat) : List Nat := [0, 1, 2, 3, 4, 5, 6, 7, 8, 9, 10].filter fun k => !(u.contains k)
structure JU (H : AH) (c : SrC) (i : Nat) (N : List Int) (q kv : Value) (x : TermD) (D : List Nat) (α : Fm) (G : AH) : Prop where
 h0 : α 0 = .pointer (some ⟨c.sb, 0, none⟩)
 h1 : α 1 = .int .i64 (i : Nat)
 h4 : α 4 = .pointer (some ⟨H.length, 0, none⟩)
 h5 : α 5 = .pointer (some ⟨H.length + 1, 0, none⟩)
 h11 : α 11 = .agg (iv .u8 N).toArray
 h12 : 2 ∈ D → α 12 = .pointer (some ⟨c.sb, 0, none⟩)
 h13 : 3 ∈ D → α 13 = .pointer (some ⟨c.sb, 0, none⟩)
 h14 : 4 ∈ D → α 14 = .pointer (some ⟨c.sb, 0, none⟩)
 h15 : 5 ∈ D → α 15 = c.tv
 h16 : 6 ∈ D → α 16 = .int .i64 (i : Nat)
 h17 : 7 ∈ D → α 17 = q
 h18 : 8 ∈ D → α 18 = .agg #[.int .i64 (x.kind : Nat), .string x.text, kv]
 hG : ∃ A B : Option Blk, G = H ++ [A, B] ∧ (A = some ⟨iv .u8 (if 11 ∈ D then N else zl 32), 41, none⟩) ∧ (B = some ⟨if 12 ∈ D then [.int .i64 (x.kind : Nat), .string x.text, kv] else [.int .i64 0, .string ByteArray.empty, .slice none 0 0], 92, none⟩)
theorem PL_hide {P : Program} {nro n : Nat} {γ : Nat → Option Nat} {nd : List Tmp} {ops : Array Oper} {H : AH} {rest : List Oper} {α : Fm} {N : List Blk} {K0 : Fm → List Blk → Prop} (h : ∀ KK : Fm → List Blk → Prop, (∀ α' N, K0 α' N → KK α' N) → PL P nro n γ nd ops KK H rest α N) : PL P nro n γ nd ops K0 H rest α N := h K0 (fun _ _ h => h)
theorem Tdo.at_ {H : AH} {v : Value} {td Fd : List Nat} (h : Tdo H v td Fd) {i : Nat} (hi : i < td.length) : ∃ q, xindexAddr Tryd.prog 39 v (.int .i64 (i : Nat)) = some q ∧ notTuple q = true ∧ ∀ G : AH, (∀ j ∈ Fd, hget G j = hget H j) → xload Tryd.prog 3 q G = some (.int .i64 ((td.getD i 0 : Nat) : Int)) := by
 have hu : und Tryd.prog 39 = .slice 3 := by kernel_rfl
 have hs : szt Tryd.prog 3 = 1 := by kernel_rfl
 rcases h with ⟨_, rfl, _⟩ | ⟨j, cs, rfl, rfl, h3, h4⟩
 ·simp at hi
 ·refine ⟨.pointer (some ⟨j, i, none⟩), ?_, rfl, fun G hG => ?_⟩
  ·unfold xindexAddr
   simp only [hu, hs]
   rw [if_pos ⟨by omega, by omega, by omega⟩]
   simp
  ·have hg := (hG j (by simp)).trans h3
   have hc : cs[i]? = some (.int .i64 ((td.getD i 0 : Nat) : Int)) := by
    obtain ⟨r, rfl⟩ := h4
    rw [List.getElem?_append_left (by rw [tdC_len]; exact hi)]
    unfold tdC
    rw [List.getElem?_map, List.getD_eq_getElem?_getD, List.getElem?_eq_getElem hi]
    rfl
   have hl := (List.getElem?_eq_some_iff.1 hc).1
   have hl : i + 1 ≤ cs.length := hl
   simp [xload, hg, hc, hl]
theorem use_ac {γ : Nat → Option Nat} {nro : Nat} {H : AH} {c : SrC} {F : List Nat} {s : FSt} (h : SR γ nro H c F s) {i : Nat} (hi : i < c.L.length) :
  AC Tryd.prog nro γ 43 #[.pointer (some ⟨c.sb, 0, none⟩), .int .i64 (i : Nat)] H (SRQ γ nro H c F (useS c.T s i)) := by
 obtain ⟨tdv, hsb, hnd, hkb, hsl, hbl, hnt, hcs⟩ := h.blocks
 have hn := h.n
 have hnH := h.nH
 obtain ⟨⟨kv, x⟩, hp⟩ : ∃ p, c.L[i]? = some p := ⟨_, List.getElem?_eq_getElem hi⟩
 have hmem := List.mem_of_getElem? hp
 have hkn := h.st.tb.key_nt hmem
 have hw : x.Wf := h.st.tb.wf _ hmem
 obtain ⟨Fx, hox, hFx⟩ := h.st.tb.keys _ hmem
 have hxS : ∀ j ∈ Fx, j ∉ F ∧ j < H.length := fun j hj => h.ap j (h.st.tS j (by simp [hFx j hj]))
 have hmk := hw.many
 obtain ⟨q, a1, a2, a3⟩ := h.st.tb.at_ hp
 have a3N : ∀ N : AH, xload Tryd.prog 92 q (H ++ N) = some (.agg (tmRow kv x).toArray) := fun N => a3 N
 have a3 : xload Tryd.prog 92 q H = some (.agg (tmRow kv x).toArray) := by simpa using a3N []
 have hx : trm c.T i = x := trm_of (by unfold SrC.T; rw [List.getElem?_map, hp]; rfl)
 have lsb := hget_lt hsb
 have lkb := hget_lt hkb
 have p1 : plain1 (.slice none 0 0) = true := rfl
 have r3 : List.range 3 = [0, 1, 2] := rfl
 have ld0 : xload Tryd.prog 30 (.pointer (some ⟨c.sb, 0, none⟩)) H = some c.tv := by simp [xload, hsb]
 have ld0N : ∀ N : AH, xload Tryd.prog 30 (.pointer (some ⟨c.sb, 0, none⟩)) (H ++ N) = some c.tv := fun N => by
  have := (hget_left (L := N) lsb).trans hsb
  simp [xload, this]
 have hnm := fun (G : AH) => name_rc (γ := γ) (H := G) (n := (i : Nat)) ⟨by omega, by omega⟩
 have lN : (nmL (i : Nat)).length = 32 := rfl
 have bN := nmL_by (i : Nat)
 have tN : (iv .u8 (nmL (i : Nat))).take 32 = iv .u8 (nmL (i : Nat)) := List.take_of_length_le (by simp [lN])
 have sN : setR (iv .u8 (zl 32)) 0 (iv .u8 (nmL (i : Nat))) = iv .u8 (nmL (i : Nat)) := setR_all _ _ (by simp [lN])
 unfold useS k0
 rw [hx]
 dsimp only
 unfold tmRow at *
 generalize nmL (i : Nat) = N at *
 obtain ⟨H1, hH1⟩ : ∃ H1 : AH, H1 = H ++ [some ⟨iv .u8 N, 41, none⟩, some ⟨[.int .i64 (x.kind : Nat), .string x.text, kv], 92, none⟩] := ⟨_, rfl⟩
 refine ac_of_aw Tryd.func43 rfl Tryd.ntmps43 Tryd.results43 (by simp) ?_
 refine aw_seq ?_
 refine aw_cut (fun α G => G = H1 ∧ α 0 = .pointer (some ⟨c.sb, 0, none⟩) ∧ α 1 = .int .i64 (i : Nat) ∧ α 4 = .pointer (some ⟨H.length, 0, none⟩) ∧ α 5 = .pointer (some ⟨H.length + 1, 0, none⟩)) ?_ ?_
 ·(refine aw_planL [] [0, 1, 2, 3, 4, 5, 6, 7, 8, 9, 10] [2, 3, 4, 5, 6, 7, 8] 2 [([], [], [[11, 12]]), ([8], [18], [[8, 11, 12], [11, 8, 12]]), ([7, 8], [17, 18], [[7, 8, 11, 12], [7, 11, 8, 12], [11, 7, 8, 12]]), ([5, 7, 8], [15, 17, 18], [[5, 7, 8, 11, 12], [5, 7, 11, 8, 12], [5, 11, 7, 8, 12], [11, 5, 7, 8, 12]]), ([6, 7, 8], [16, 17, 18], [[6, 7, 8, 11, 12], [6, 7, 11, 8, 12], [6, 11, 7, 8, 12], [11, 6, 7, 8, 12]]), ([4, 5, 7, 8], [14, 15, 17, 18], [[4, 5, 7, 8, 11, 12], [4, 5, 7, 11, 8, 12], [4, 5, 11, 7, 8, 12], [4, 11, 5, 7, 8, 12], [11, 4, 5, 7, 8, 12]]), ([5, 6, 7, 8], [15, 16, 17, 18], [[5, 6, 7, 8, 11, 12], [5, 6, 7, 11, 8, 12], [5, 6, 11, 7, 8, 12], [5, 11, 6, 7, 8, 12], [6, 5, 7, 8, 11, 12], [6, 5, 7, 11, 8, 12], [6, 5, 11, 7, 8, 12], [6, 11, 5, 7, 8, 12], [11, 5, 6, 7, 8, 12], [11, 6, 5, 7, 8, 12]]), ([3, 4, 5, 7, 8], [13, 14, 15, 17, 18], [[3, 4, 5, 7, 8, 11, 12], [3, 4, 5, 7, 11, 8, 12], [3, 4, 5, 11, 7, 8, 12], [3, 4, 11, 5, 7, 8, 12], [3, 11, 4, 5, 7, 8, 12], [11, 3, 4, 5, 7, 8, 12]]), ([4, 5, 6, 7, 8], [14, 15, 16, 17, 18], [[4, 5, 6, 7, 8, 11, 12], [4, 5, 6, 7, 11, 8, 12], [4, 5, 6, 11, 7, 8, 12], [4, 5, 11, 6, 7, 8, 12], [4, 6, 5, 7, 8, 11, 12], [4, 6, 5, 7, 11, 8, 12], [4, 6, 5, 11, 7, 8, 12], [4, 6, 11, 5, 7, 8, 12], [4, 11, 5, 6, 7, 8, 12], [4, 11, 6, 5, 7, 8, 12], [6, 4, 5, 7, 8, 11, 12], [6, 4, 5, 7, 11, 8, 12], [6, 4, 5, 11, 7, 8, 12], [6, 4, 11, 5, 7, 8, 12], [6, 11, 4, 5, 7, 8, 12], [11, 4, 5, 6, 7, 8, 12], [11, 4, 6, 5, 7, 8, 12], [11, 6, 4, 5, 7, 8, 12]]), ([2, 3, 4, 5, 7, 8], [12, 13, 14, 15, 17, 18], [[2, 3, 4, 5, 7, 8, 11, 12], [2, 3, 4, 5, 7, 11, 8, 12], [2, 3, 4, 5, 11, 7, 8, 12], [2, 3, 4, 11, 5, 7, 8, 12], [2, 3, 11, 4, 5, 7, 8, 12], [2, 11, 3, 4, 5, 7, 8, 12], [11, 2, 3, 4, 5, 7, 8, 12]]), ([3, 4, 5, 6, 7, 8], [13, 14, 15, 16, 17, 18], [[3, 4, 5, 6, 7, 8, 11, 12], [3, 4, 5, 6, 7, 11, 8, 12], [3, 4, 5, 6, 11, 7, 8, 12], [3, 4, 5, 11, 6, 7, 8, 12], [3, 4, 6, 5, 7, 8, 11, 12], [3, 4, 6, 5, 7, 11, 8, 12], [3, 4, 6, 5, 11, 7, 8, 12], [3, 4, 6, 11, 5, 7, 8, 12], [3, 4, 11, 5, 6, 7, 8, 12], [3, 4, 11, 6, 5, 7, 8, 12], [3, 6, 4, 5, 7, 8, 11, 12], [3, 6, 4, 5, 7, 11, 8, 12], [3, 6, 4, 5, 11, 7, 8, 12], [3, 6, 4, 11, 5, 7, 8, 12], [3, 6, 11, 4, 5, 7, 8, 12], [3, 11, 4, 5, 6, 7, 8, 12], [3, 11, 4, 6, 5, 7, 8, 12], [3, 11, 6, 4, 5, 7, 8, 12], [6, 3, 4, 5, 7, 8, 11, 12], [6, 3, 4, 5, 7, 11, 8, 12], [6, 3, 4, 5, 11, 7, 8, 12], [6, 3, 4, 11, 5, 7, 8, 12], [6, 3, 11, 4, 5, 7, 8, 12], [6, 11, 3, 4, 5, 7, 8, 12], [11, 3, 4, 5, 6, 7, 8, 12], [11, 3, 4, 6, 5, 7, 8, 12], [11, 3, 6, 4, 5, 7, 8, 12], [11, 6, 3, 4, 5, 7, 8, 12]]), ([2, 3, 4, 5, 6, 7, 8], [12, 13, 14, 15, 16, 17, 18], [[2, 3, 4, 5, 6, 7, 8, 11, 12], [2, 3, 4, 5, 6, 7, 11, 8, 12], [2, 3, 4, 5, 6, 11, 7, 8, 12], [2, 3, 4, 5, 11, 6, 7, 8, 12], [2, 3, 4, 6, 5, 7, 8, 11, 12], [2, 3, 4, 6, 5, 7, 11, 8, 12], [2, 3, 4, 6, 5, 11, 7, 8, 12], [2, 3, 4, 6, 11, 5, 7, 8, 12], [2, 3, 4, 11, 5, 6, 7, 8, 12], [2, 3, 4, 11, 6, 5, 7, 8, 12], [2, 3, 6, 4, 5, 7, 8, 11, 12], [2, 3, 6, 4, 5, 7, 11, 8, 12], [2, 3, 6, 4, 5, 11, 7, 8, 12], [2, 3, 6, 4, 11, 5, 7, 8, 12], [2, 3, 6, 11, 4, 5, 7, 8, 12], [2, 3, 11, 4, 5, 6, 7, 8, 12], [2, 3, 11, 4, 6, 5, 7, 8, 12], [2, 3, 11, 6, 4, 5, 7, 8, 12], [2, 6, 3, 4, 5, 7, 8, 11, 12], [2, 6, 3, 4, 5, 7, 11, 8, 12], [2, 6, 3, 4, 5, 11, 7, 8, 12], [2, 6, 3, 4, 11, 5, 7, 8, 12], [2, 6, 3, 11, 4, 5, 7, 8, 12], [2, 6, 11, 3, 4, 5, 7, 8, 12], [2, 11, 3, 4, 5, 6, 7, 8, 12], [2, 11, 3, 4, 6, 5, 7, 8, 12], [2, 11, 3, 6, 4, 5, 7, 8, 12], [2, 11, 6, 3, 4, 5, 7, 8, 12], [6, 2, 3, 4, 5, 7, 8, 11, 12], [6, 2, 3, 4, 5, 7, 11, 8, 12], [6, 2, 3, 4, 5, 11, 7, 8, 12], [6, 2, 3, 4, 11, 5, 7, 8, 12], [6, 2, 3, 11, 4, 5, 7, 8, 12], [6, 2, 11, 3, 4, 5, 7, 8, 12], [6, 11, 2, 3, 4, 5, 7, 8, 12], [11, 2, 3, 4, 5, 6, 7, 8, 12], [11, 2, 3, 4, 6, 5, 7, 8, 12], [11, 2, 3, 6, 4, 5, 7, 8, 12], [11, 2, 6, 3, 4, 5, 7, 8, 12], [11, 6, 2, 3, 4, 5, 7, 8, 12]])] (by kernel_rfl) (by kernel_rfl) (by kernel_rfl) (fun K hK => ?_)); refine PL_hide (fun KK hKK => ?_); simp only [sel, List.getElem?_cons_succ, List.getElem?_cons_zero]; simp (maxSteps := 20000000) (disch := first | omega | (simp only [lnS]; try omega)) [hi, -xload, ld0, a3, -xindexAddr, a1, a2, p1, r3, -notTuple, hnt, hkn.1, hkn.2, PL_nil, plainB_lit, PL_cons, PLc_val, PLc_new, stepP_t, stepP_f, stepPC_n, stepPC_s, stepPX_s, stepPX_n, stepPV_n, stepPV_s, stepPA_t, stepPA_c, stepPA_l, stepPN_s, allocOp, reloc_sl, reloc_ptr, List.map_cons, List.map_nil, List.nil_append, List.append_assoc, List.cons_append, Nat.add_assoc]
  refine PLc_call (v := .agg (iv .u8 N).toArray) (by kernel_rfl) (fun L hL => hnm _) (by simp [pv_iv]) ?_
  simp (maxSteps := 20000000) (disch := first | omega | (simp only [lnS]; try omega)) [hi, -xload, ld0, a3, -xindexAddr, a1, a2, p1, r3, -notTuple, hnt, hkn.1, hkn.2, lN, tN, sN, hnH, PL_nil, plainB_lit, PL_cons, PLc_val, PLc_new, stepP_t, stepP_f, stepPC_n, stepPC_s, stepPX_s, stepPX_n, stepPV_n, stepPV_s, stepPA_t, stepPA_c, stepPA_l, stepPN_s, allocOp, reloc_sl, reloc_ptr, List.map_cons, List.map_nil, List.nil_append, List.append_assoc, List.cons_append, Nat.add_assoc]
  refine hKK _ _ ?_; clear hKK KK
  refine tab_run (C := fun u ts o => decide (ts = u.map (· + 10)) && !(u.contains 1) && okAll okU (dU u) o && o.contains 11 && o.contains 12) (by decide) ?_
  rintro ⟨u, ts, os⟩ hp o ho hC
  simp only [Bool.and_eq_true, decide_eq_true_eq, Bool.not_eq_true', List.contains_iff_mem] at hC
  obtain ⟨⟨⟨⟨rfl, hu1⟩, hoa⟩, ho11⟩, ho12⟩ := hC
  refine ord_run (okI := okU) (J := JU H c i N q kv x) ?_ ?_ o (dU u) _ _ hoa ?_ ?_
  ·intro D k hk
   unfold okU at hk
   split at hk <;> first | rfl | cases hk
  ·intro k D α G rest hJ hk hcont
   obtain ⟨j0, j1, j4, j5, j11, j12, j13, j14, j15, j16, j17, j18, A, B, rfl, hA, hB⟩ := hJ
   unfold okU at hk
   split at hk
   ·simp only [sel, List.getElem?_cons_succ, List.getElem?_cons_zero]
    simp (maxSteps := 20000000) (disch := first | omega | (simp only [lnS]; try omega)) [-xload, a3N, ld0N, -xindexAddr, a1, a2, p1, r3, -notTuple, hnt, hkn.1, hkn.2, lN, tN, sN, hnH, j0]
    exact hcont _ _ ⟨by (first | (simp [j0]; done) | rfl), by (first | (simp [j1]; done) | rfl), by (first | (simp [j4]; done) | rfl), by (first | (simp [j5]; done) | rfl), by (first | (simp [j11]; done) | rfl), fun _ => by (first | (simp; done) | rfl), fun h => by (first | (simp [j13 (by simpa using h)]; done) | rfl), fun h => by (first | (simp [j14 (by simpa using h)]; done) | rfl), fun h => by (first | (simp [j15 (by simpa using h)]; done) | rfl), fun h => by (first | (simp [j16 (by simpa using h)]; done) | rfl), fun h => by (first | (simp [j17 (by simpa using h)]; done) | rfl), fun h => by (first | (simp [j18 (by simpa using h)]; done) | rfl), ⟨A, B, rfl, by simpa using hA, by simpa using hB⟩⟩
   ·simp only [sel, List.getElem?_cons_succ, List.getElem?_cons_zero]
    simp (maxSteps := 20000000) (disch := first | omega | (simp only [lnS]; try omega)) [-xload, a3N, ld0N, -xindexAddr, a1, a2, p1, r3, -notTuple, hnt, hkn.1, hkn.2, lN, tN, sN, hnH, j12 (by simpa using hk)]
    exact hcont _ _ ⟨by (first | (simp [j0]; done) | rfl), by (first | (simp [j1]; done) | rfl), by (first | (simp [j4]; done) | rfl), by (first | (simp [j5]; done) | rfl), by (first | (simp [j11]; done) | rfl), fun h => by (first | (simp [j12 (by simpa using h)]; done) | rfl), fun _ => by (first | (simp; done) | rfl), fun h => by (first | (simp [j14 (by simpa using h)]; done) | rfl), fun h => by (first | (simp [j15 (by simpa using h)]; done) | rfl), fun h => by (first | (simp [j16 (by simpa using h)]; done) | rfl), fun h => by (first | (simp [j17 (by simpa using h)]; done) | rfl), fun h => by (first | (simp [j18 (by simpa using h)]; done) | rfl), ⟨A, B, rfl, by simpa using hA, by simpa using hB⟩⟩
   ·simp only [sel, List.getElem?_cons_succ, List.getElem?_cons_zero]
    simp (maxSteps := 20000000) (disch := first | omega | (simp only [lnS]; try omega)) [-xload, a3N, ld0N, -xindexAddr, a1, a2, p1, r3, -notTuple, hnt, hkn.1, hkn.2, lN, tN, sN, hnH, j13 (by simpa using hk)]
    exact hcont _ _ ⟨by (first | (simp [j0]; done) | rfl), by (first | (simp [j1]; done) | rfl), by (first | (simp [j4]; done) | rfl), by (first | (simp [j5]; done) | rfl), by (first | (simp [j11]; done) | rfl), fun h => by (first | (simp [j12 (by simpa using h)]; done) | rfl), fun h => by (first | (simp [j13 (by simpa using h)]; done) | rfl), fun _ => by (first | (simp; done) | rfl), fun h => by (first | (simp [j15 (by simpa using h)]; done) | rfl), fun h => by (first | (simp [j16 (by simpa using h)]; done) | rfl), fun h => by (first | (simp [j17 (by simpa using h)]; done) | rfl), fun h => by (first | (simp [j18 (by simpa using h)]; done) | rfl), ⟨A, B, rfl, by simpa using hA, by simpa using hB⟩⟩
   ·simp only [sel, List.getElem?_cons_succ, List.getElem?_cons_zero]
    simp (maxSteps := 20000000) (disch := first | omega | (simp only [lnS]; try omega)) [-xload, a3N, ld0N, -xindexAddr, a1, a2, p1, r3, -notTuple, hnt, hkn.1, hkn.2, lN, tN, sN, hnH, j14 (by simpa using hk)]
    exact hcont _ _ ⟨by (first | (simp [j0]; done) | rfl), by (first | (simp [j1]; done) | rfl), by (first | (simp [j4]; done) | rfl), by (first | (simp [j5]; done) | rfl), by (first | (simp [j11]; done) | rfl), fun h => by (first | (simp [j12 (by simpa using h)]; done) | rfl), fun h => by (first | (simp [j13 (by simpa using h)]; done) | rfl), fun h => by (first | (simp [j14 (by simpa using h)]; done) | rfl), fun _ => by (first | (simp; done) | rfl), fun h => by (first | (simp [j16 (by simpa using h)]; done) | rfl), fun h => by (first | (simp [j17 (by simpa using h)]; done) | rfl), fun h => by (first | (simp [j18 (by simpa using h)]; done) | rfl), ⟨A, B, rfl, by simpa using hA, by simpa using hB⟩⟩
   ·simp only [sel, List.getElem?_cons_succ, List.getElem?_cons_zero]
    simp (maxSteps := 20000000) (disch := first | omega | (simp only [lnS]; try omega)) [-xload, a3N, ld0N, -xindexAddr, a1, a2, p1, r3, -notTuple, hnt, hkn.1, hkn.2, lN, tN, sN, hnH, j1]
    exact hcont _ _ ⟨by (first | (simp [j0]; done) | rfl), by (first | (simp [j1]; done) | rfl), by (first | (simp [j4]; done) | rfl), by (first | (simp [j5]; done) | rfl), by (first | (simp [j11]; done) | rfl), fun h => by (first | (simp [j12 (by simpa using h)]; done) | rfl), fun h => by (first | (simp [j13 (by simpa using h)]; done) | rfl), fun h => by (first | (simp [j14 (by simpa using h)]; done) | rfl), fun h => by (first | (simp [j15 (by simpa using h)]; done) | rfl), fun _ => by (first | (simp; done) | rfl), fun h => by (first | (simp [j17 (by simpa using h)]; done) | rfl), fun h => by (first | (simp [j18 (by simpa using h)]; done) | rfl), ⟨A, B, rfl, by simpa using hA, by simpa using hB⟩⟩
   ·simp only [Bool.and_eq_true, List.contains_iff_mem] at hk
    simp only [sel, List.getElem?_cons_succ, List.getElem?_cons_zero]
    simp (maxSteps := 20000000) (disch := first | omega | (simp only [lnS]; try omega)) [-xload, a3N, ld0N, -xindexAddr, a1, a2, p1, r3, -notTuple, hnt, hkn.1, hkn.2, lN, tN, sN, hnH, j15 hk.1, j16 hk.2]
    exact hcont _ _ ⟨by (first | (simp [j0]; done) | rfl), by (first | (simp [j1]; done) | rfl), by (first | (simp [j4]; done) | rfl), by (first | (simp [j5]; done) | rfl), by (first | (simp [j11]; done) | rfl), fun h => by (first | (simp [j12 (by simpa using h)]; done) | rfl), fun h => by (first | (simp [j13 (by simpa using h)]; done) | rfl), fun h => by (first | (simp [j14 (by simpa using h)]; done) | rfl), fun h => by (first | (simp [j15 (by simpa using h)]; done) | rfl), fun h => by (first | (simp [j16 (by simpa using h)]; done) | rfl), fun _ => by (first | (simp; done) | rfl), fun h => by (first | (simp [j18 (by simpa using h)]; done) | rfl), ⟨A, B, rfl, by simpa using hA, by simpa using hB⟩⟩
   ·simp only [sel, List.getElem?_cons_succ, List.getElem?_cons_zero]
    simp (maxSteps := 20000000) (disch := first | omega | (simp only [lnS]; try omega)) [-xload, a3N, ld0N, -xindexAddr, a1, a2, p1, r3, -notTuple, hnt, hkn.1, hkn.2, lN, tN, sN, hnH, j17 (by simpa using hk)]
    exact hcont _ _ ⟨by (first | (simp [j0]; done) | rfl), by (first | (simp [j1]; done) | rfl), by (first | (simp [j4]; done) | rfl), by (first | (simp [j5]; done) | rfl), by (first | (simp [j11]; done) | rfl), fun h => by (first | (simp [j12 (by simpa using h)]; done) | rfl), fun h => by (first | (simp [j13 (by simpa using h)]; done) | rfl), fun h => by (first | (simp [j14 (by simpa using h)]; done) | rfl), fun h => by (first | (simp [j15 (by simpa using h)]; done) | rfl), fun h => by (first | (simp [j16 (by simpa using h)]; done) | rfl), fun h => by (first | (simp [j17 (by simpa using h)]; done) | rfl), fun _ => by (first | (simp; done) | rfl), ⟨A, B, rfl, by simpa using hA, by simpa using hB⟩⟩
   ·have hk : 11 ∉ D := by simpa using hk
    rw [if_neg hk] at hA
    simp only [sel, List.getElem?_cons_succ, List.getElem?_cons_zero]
    simp (maxSteps := 20000000) (disch := first | omega | (simp only [lnS]; try omega)) [-xload, a3N, ld0N, -xindexAddr, a1, a2, p1, r3, -notTuple, hnt, hkn.1, hkn.2, lN, tN, sN, hnH, j4, j11, hA]
    exact hcont _ _ ⟨by (first | (simp [j0]; done) | rfl), by (first | (simp [j1]; done) | rfl), by (first | (simp [j4]; done) | rfl), by (first | (simp [j5]; done) | rfl), by (first | (simp [j11]; done) | rfl), fun h => by (first | (simp [j12 (by simpa using h)]; done) | rfl), fun h => by (first | (simp [j13 (by simpa using h)]; done) | rfl), fun h => by (first | (simp [j14 (by simpa using h)]; done) | rfl), fun h => by (first | (simp [j15 (by simpa using h)]; done) | rfl), fun h => by (first | (simp [j16 (by simpa using h)]; done) | rfl), fun h => by (first | (simp [j17 (by simpa using h)]; done) | rfl), fun h => by (first | (simp [j18 (by simpa using h)]; done) | rfl), ⟨_, B, rfl, by simp, by simpa using hB⟩⟩
   ·have hk : 8 ∈ D ∧ 12 ∉ D := by simpa using hk
    rw [if_neg hk.2] at hB
    simp only [sel, List.getElem?_cons_succ, List.getElem?_cons_zero]
    simp (maxSteps := 20000000) (disch := first | omega | (simp only [lnS]; try omega)) [-xload, a3N, ld0N, -xindexAddr, a1, a2, p1, r3, -notTuple, hnt, hkn.1, hkn.2, lN, tN, sN, hnH, j5, j18 hk.1, hB]
    exact hcont _ _ ⟨by (first | (simp [j0]; done) | rfl), by (first | (simp [j1]; done) | rfl), by (first | (simp [j4]; done) | rfl), by (first | (simp [j5]; done) | rfl), by (first | (simp [j11]; done) | rfl), fun h => by (first | (simp [j12 (by simpa using h)]; done) | rfl), fun h => by (first | (simp [j13 (by simpa using h)]; done) | rfl), fun h => by (first | (simp [j14 (by simpa using h)]; done) | rfl), fun h => by (first | (simp [j15 (by simpa using h)]; done) | rfl), fun h => by (first | (simp [j16 (by simpa using h)]; done) | rfl), fun h => by (first | (simp [j17 (by simpa using h)]; done) | rfl), fun h => by (first | (simp [j18 (by simpa using h)]; done) | rfl), ⟨A, _, rfl, by simpa using hA, by simp⟩⟩
   ·cases hk
  ·have hn0 : ∀ t : Nat, t < 10 → (u.map (· + 10)).contains t = false := fun t ht => by
    rw [List.contains_eq_any_beq, List.any_eq_false]
    intro y hy
    obtain ⟨z, _, rfl⟩ := List.mem_map.1 hy
    simp
    omega
   have hnt : ∀ k : Nat, u.contains k = false → (u.map (· + 10)).contains (k + 10) = false := fun k hk => by
    rw [List.contains_eq_any_beq, List.any_eq_false] at hk ⊢
    intro y hy
    obtain ⟨z, hz, rfl⟩ := List.mem_map.1 hy
    have := hk z hz
    simp at this ⊢
    omega
   have hd : ∀ k : Nat, k ∈ dU u → u.contains k = false := fun k hk => by
    unfold dU at hk
    simpa using (List.mem_filter.1 hk).2
   have m0 : ∀ (t : Nat) (a b : Fm), (u.map (· + 10)).contains t = false → mixF (u.map (· + 10)) a b t = b t := fun t a b h => by
    rw [mixF_at, h]; rfl
   have e11 : 11 ∉ dU u := by unfold dU; simp
   have e12 : 12 ∉ dU u := by unfold dU; simp
   refine ⟨?_, ?_, ?_, ?_, ?_, fun h => ?_, fun h => ?_, fun h => ?_, fun h => ?_, fun h => ?_, fun h => ?_, fun h => ?_, ⟨_, _, rfl, ?_, ?_⟩⟩
   ·rw [m0 _ _ _ (hn0 0 (by omega))]; (first | (simp; done) | rfl)
   ·rw [m0 _ _ _ (hn0 1 (by omega))]; (first | (simp; done) | rfl)
   ·rw [m0 _ _ _ (hn0 4 (by omega))]; (first | (simp; done) | rfl)
   ·rw [m0 _ _ _ (hn0 5 (by omega))]; (first | (simp; done) | rfl)
   ·rw [m0 _ _ _ (hnt 1 hu1)]; (first | (simp; done) | rfl)
   ·rw [m0 _ _ _ (hnt 2 (hd 2 h))]; (first | (simp; done) | rfl)
   ·rw [m0 _ _ _ (hnt 3 (hd 3 h))]; (first | (simp; done) | rfl)
   ·rw [m0 _ _ _ (hnt 4 (hd 4 h))]; (first | (simp; done) | rfl)
   ·rw [m0 _ _ _ (hnt 5 (hd 5 h))]; (first | (simp; done) | rfl)
   ·rw [m0 _ _ _ (hnt 6 (hd 6 h))]; (first | (simp; done) | rfl)
   ·rw [m0 _ _ _ (hnt 7 (hd 7 h))]; (first | (simp; done) | rfl)
   ·rw [m0 _ _ _ (hnt 8 (hd 8 h))]; (first | (simp; done) | rfl)
   ·rw [if_neg e11]
   ·rw [if_neg e12]
  ·rintro E α' G' ⟨j0, j1, j4, j5, j11, j12, j13, j14, j15, j16, j17, j18, A, B, rfl, hA, hB⟩ ho hE
   rw [if_pos (ho 11 ho11)] at hA
   rw [if_pos (ho 12 ho12)] at hB
   refine hK _ _ ⟨?_, j0, j1, j4, j5⟩
   rw [hH1, hA, hB]
 clear ld0 ld0N a1 a2 a3 a3N
 rintro α G ⟨rfl, h0, h1, h4, h5⟩
 have kj : ∀ j, j < H.length → hget G j = hget H j := fun j hj => by rw [hH1]; exact hget_left hj
 have g4 : hget G H.length = some ⟨iv .u8 N, 41, none⟩ := by rw [hH1, hget_app0]; rfl
 have g5 : hget G (H.length + 1) = some ⟨[.int .i64 (x.kind : Nat), .string x.text, kv], 92, none⟩ := by rw [hH1, hget_app]; rfl
 have l1 : G.length = H.length + 2 := by rw [hH1]; simp
 have lw1 : Low H.length H G := ⟨kj, by omega⟩
 clear hH1
 have hR1 : SR γ nro G c F s := h.lay lw1
 have hup := fun (t : FSt) (A : AH) (q : SRQ γ nro G c F t (.tuple #[]) A) => q.up lw1 h.bound
 refine aw_seq (aoo fun K hK => ?_)
 simp (maxSteps := 20000000) (disch := first | omega | (simp only [lnS]; try omega)) [h0, h1]
 refine ⟨by kernel_rfl, AC.mono (opn_ac hR1 hi) ?_⟩
 intro v' A hq
 obtain rfl := hq.1
 try simp (maxSteps := 20000000) (disch := first | omega | (simp only [lnS]; try omega)) []
 refine hK _ _ ?_; clear hK K
 generalize opnS c.T s i = s1 at *
 obtain ⟨_, hAl, hAk, F1, hS, hF1⟩ := hq
 have a4 : hget A H.length = some ⟨iv .u8 N, 41, none⟩ := (hAk _ (by omega) (fun e => by have := h.bound _ e; omega)).trans g4
 have a5 : hget A (H.length + 1) = some ⟨[.int .i64 (x.kind : Nat), .string x.text, kv], 92, none⟩ := (hAk _ (by omega) (fun e => by have := h.bound _ e; omega)).trans g5
 obtain ⟨tdv2, asb, and2, _, _, _, _, _⟩ := hS.blocks
 have hlk := us_look hS.st.hu hS.st.hU lN
 obtain ⟨Fu, hTu, hFu⟩ := hS.st.us N lN
 have hul := fun u (hu : u ∈ usersF N 0 c.T) => (show u < c.L.length by have := users_lt hu; simpa [SrC.T] using this)
 have hTn := hTu.nt
 have hq0 : SRQ γ nro A c F1 s1 (.tuple #[]) A := hS.same (Low.refl (Nat.le_refl _))
 have hm9 := hS.users_le N
 generalize ul N c.U = uv at *
 generalize usersF N 0 c.T = us at *
 refine aw_seq (aw_seq ?_)
 (refine aw_plan [] [] [0, 1, 2, 3, 4, 5, 6, 7] 8 0 (by kernel_rfl) (by kernel_rfl) (by kernel_rfl) (fun K hK => ?_)); simp only [sel, List.getElem?_cons_succ, List.getElem?_cons_zero, List.drop_succ_cons, List.drop_zero]; simp (maxSteps := 20000000) (disch := first | omega | (simp only [lnS]; try omega)) [h0, h4, asb, a4, lN, tN, hlk, -notTuple, nt_mapG, hnt, and2, hTn.1, -xlen, hTn.2.2.2, PL_nil, plainB_lit, PL_cons, PLc_val, PLc_new, stepP_t, stepP_f, stepPC_n, stepPC_s, stepPX_s, stepPX_n, stepPV_n, stepPV_s, stepPA_t, stepPA_c, stepPA_l, stepPN_s, allocOp, reloc_sl, reloc_ptr, List.map_cons, List.map_nil, List.nil_append, List.append_assoc, List.cons_append, Nat.add_assoc]
 refine hK _ _ ?_; clear hK K
 refine aw_block ?_
 refine aw_loop (fun q α B => ∃ j : Nat, j + q = us.length ∧ α 0 = .pointer (some ⟨c.sb, 0, none⟩) ∧ α 5 = .pointer (some ⟨H.length + 1, 0, none⟩) ∧ α 27 = uv ∧ α 28 = .int .i64 (us.length : Nat) ∧ α 29 = .int .i64 (j : Nat) ∧ SRQ γ nro A c F1 ((us.take j).foldl (fun s u => opnS c.T (tryS c.T s u) u) s1) (.tuple #[]) B) us.length ?_ ?_
 ·exact ⟨0, by omega, by (first | (simp [h0]; done) | rfl), by (first | (simp [h5]; done) | rfl), by (first | (simp; done) | rfl), by (first | (simp; done) | rfl), by (first | (simp; done) | rfl), hq0⟩
 clear h0 h1 h4 h5
 rintro q α B ⟨j, hjq, h0, h5, h27, h28, h29, hq⟩
 refine aw_seq ?_
 by_cases hj : j < us.length
 case neg =>
  (refine aoo fun K hK => ?_; simp (maxSteps := 20000000) (disch := first | omega | (simp only [lnS]; try omega)) [h28, h29, hj]; refine hK _ _ ?_; clear hK K)
  refine aw_seq ?_
  refine aw_f (by (first | (simp [hj]; done) | (simp [hj]; omega))) (by kernel_rfl) ?_
  refine aw_exit ?_
  obtain rfl : j = us.length := by omega
  rw [List.take_length] at hq
  generalize us.foldl (fun s u => opnS c.T (tryS c.T s u) u) s1 = s2 at *
  obtain ⟨_, hBl, hBk, F2, hS2, hF2⟩ := hq
  have b5 : hget B (H.length + 1) = some ⟨[.int .i64 (x.kind : Nat), .string x.text, kv], 92, none⟩ := (hBk _ (by omega) (fun e => by rcases hF1 _ e with e | e; have := h.bound _ e; omega; omega)).trans a5
  have lb5 := hget_lt b5
  have hq2 : SRQ γ nro G c F s2 (.tuple #[]) B := SRQ.then_ hAl hAk hF1 ⟨rfl, hBl, hBk, F2, hS2, hF2⟩
  refine aw_seq ?_
  by_cases h3 : x.kind = 3
  case neg =>
   have b3 : ((x.kind : Int) == 3) = false := by rw [beq_eq_false_iff_ne]; omega
   have i3 : ¬ (x.kind : Int) = 3 := by omega
   rw [if_neg h3]
   (refine aoo fun K hK => ?_; simp (maxSteps := 20000000) (disch := first | omega | (simp only [lnS]; try omega)) [h5, b5, lb5, b3, i3]; refine hK _ _ ?_; clear hK K)
   refine aw_f (by (first | (simp; done) | (simp; omega))) (by kernel_rfl) ?_
   refine aw_skip ?_
   exact ⟨[], _, rfl, rfl, hup _ _ hq2⟩
  have b3 : ((x.kind : Int) == 3) = true := by rw [h3]; rfl
  have i3 : (x.kind : Int) = 3 := by omega
  rw [if_pos h3]
  have hk1 := hw.pub h3
  obtain ⟨z32, zby⟩ : (x.keys.getD 0 []).length = 32 ∧ By (x.keys.getD 0 []) := by
   rw [List.getD_eq_getElem?_getD, List.getElem?_eq_getElem (by omega)]
   exact ⟨hw.k32 _ (List.getElem_mem _), hw.by_ _ (List.getElem_mem _)⟩
  have hoB : OwnF B kv 41 32 (kr x.keys) Fx := hox.low (fun j hj => by
   have e := hxS j hj
   exact (hBk j (by omega) (fun e2 => by rcases hF1 _ e2 with e3 | e3; exact e.1 e3; omega)).trans ((hAk j (by omega) e.1).trans (kj j e.2)))
  have hKB : KsV B kv x.keys := kr_ksv hoB hw.k32
  obtain ⟨q0, y0, t1, t2, t3, t4, t5⟩ := (hKB.acc hw.k32).at_ 0 (by omega)
  have t2 : xindexAddr Tryd.prog 34 kv (.int .i64 0) = some q0 := t2
  have t5 := t5 B (Low.refl (Nat.le_refl _))
  subst t4
  obtain ⟨tdv3, bsb, bnd2, _, _, _, _, _⟩ := hS2.blocks
  have hlk := us_look hS2.st.hu hS2.st.hU z32
  obtain ⟨Fv, hTv, hFv⟩ := hS2.st.us _ z32
  have hul2 := fun u (hu : u ∈ usersF (x.keys.getD 0 []) 0 c.T) => (show u < c.L.length by have := users_lt hu; simpa [SrC.T] using this)
  have hVn := hTv.nt
  have hm8 := hS2.users_le (x.keys.getD 0 [])
  have hq3 : SRQ γ nro B c F2 s2 (.tuple #[]) B := hS2.same (Low.refl (Nat.le_refl _))
  have hfin := fun (t : FSt) (D : AH) (q : SRQ γ nro B c F2 t (.tuple #[]) D) => hup _ _ (SRQ.then_ hAl hAk hF1 (SRQ.then_ hBl hBk hF2 q))
  have ldk : xload Tryd.prog 34 (.pointer (some ⟨H.length + 1, 2, none⟩)) B = some kv := by simp [xload, b5]
  have ldu : xload Tryd.prog 86 (.pointer (some ⟨c.sb, 2, none⟩)) B = some (.map (some c.ub)) := by simp [xload, bsb]
  generalize x.keys.getD 0 [] = z at *
  generalize ul z c.U = vv at *
  generalize usersF z 0 c.T = vs at *
  (refine aoo fun K hK => ?_; simp (maxSteps := 20000000) (disch := first | omega | (simp only [lnS]; try omega)) [h5, b5, lb5, b3, i3]; refine hK _ _ ?_; clear hK K)
  refine aw_t (by (first | (simp; done) | (simp; omega))) (by kernel_rfl) ?_
  refine aw_seq ?_
  (refine aw_plan [] [] [0, 1, 2, 3, 4, 5, 6, 7, 8, 9, 10] 11 0 (by kernel_rfl) (by kernel_rfl) (by kernel_rfl) (fun K hK => ?_)); simp only [sel, List.getElem?_cons_succ, List.getElem?_cons_zero, List.drop_succ_cons, List.drop_zero]; simp (maxSteps := 20000000) (disch := first | omega | (simp only [lnS]; try omega)) [h0, h5, -xload, ldk, ldu, t5, -xindexAddr, t1, t2, hkn.1, hlk, -notTuple, nt_mapG, hVn.1, -xlen, hVn.2.2.2, PL_nil, plainB_lit, PL_cons, PLc_val, PLc_new, stepP_t, stepP_f, stepPC_n, stepPC_s, stepPX_s, stepPX_n, stepPV_n, stepPV_s, stepPA_t, stepPA_c, stepPA_l, stepPN_s, allocOp, reloc_sl, reloc_ptr, List.map_cons, List.map_nil, List.nil_append, List.append_assoc, List.cons_append, Nat.add_assoc]
  refine hK _ _ ?_; clear hK K
  refine aw_block ?_
  refine aw_loop (fun q α D => ∃ j : Nat, j + q = vs.length ∧ α 0 = .pointer (some ⟨c.sb, 0, none⟩) ∧ α 51 = vv ∧ α 52 = .int .i64 (vs.length : Nat) ∧ α 53 = .int .i64 (j : Nat) ∧ SRQ γ nro B c F2 ((vs.take j).foldl (tryS c.T) s2) (.tuple #[]) D) vs.length ?_ ?_
  ·exact ⟨0, by omega, by (first | (simp [h0]; done) | rfl), by (first | (simp; done) | rfl), by (first | (simp; done) | rfl), by (first | (simp; done) | rfl), hq3⟩
  clear h0 h5 h27 h28 h29
  rintro q α D ⟨j, hjq, h0, h51, h52, h53, hq⟩
  refine aw_seq ?_
  by_cases hj : j < vs.length
  case neg =>
   (refine aoo fun K hK => ?_; simp (maxSteps := 20000000) (disch := first | omega | (simp only [lnS]; try omega)) [h52, h53, hj]; refine hK _ _ ?_; clear hK K)
   refine aw_seq ?_
   refine aw_f (by (first | (simp [hj]; done) | (simp [hj]; omega))) (by kernel_rfl) ?_
   refine aw_exit ?_
   obtain rfl : j = vs.length := by omega
   rw [List.take_length] at hq
   exact ⟨[], _, rfl, rfl, hfin _ _ hq⟩
  obtain ⟨_, hDl, hDk, F3, hS3, hF3⟩ := hq
  obtain ⟨q1, w1, w2, w3⟩ := hTv.at_ hj
  have w3 := w3 D (fun j hj => hDk j (hS2.ap j (hFv j hj)).2 (hS2.ap j (hFv j hj)).1)
  have hfd := fold_take (f := tryS c.T) (b := s2) (d := 0) hj
  have hz := hul2 (vs.getD j 0) (by rw [List.getD_eq_getElem?_getD, List.getElem?_eq_getElem hj]; exact List.getElem_mem hj)
  generalize vs.getD j 0 = u at *
  (refine aoo fun K hK => ?_; simp (maxSteps := 20000000) (disch := first | omega | (simp only [lnS]; try omega)) [h52, h53, hj]; refine hK _ _ ?_; clear hK K)
  refine aw_seq ?_
  refine aw_t (by (first | (simp [hj]; done) | (simp [hj]; omega))) (by kernel_rfl) ?_
  refine aw_skip (aw_seq ?_)
  refine aw_block ?_
  (refine aw_seq (aoo fun K hK => ?_); simp (maxSteps := 20000000) (disch := first | omega | (simp only [lnS]; try omega)) [h51, h53, -xindexAddr, w1, w2, -xload, w3, -notTuple, hVn.1]; refine hK _ _ ?_; clear hK K)
  refine aoo fun K hK => ?_
  simp (maxSteps := 20000000) (disch := first | omega | (simp only [lnS]; try omega)) [h0]
  refine ⟨by kernel_rfl, AC.mono (try_ac hS3 hz) ?_⟩
  intro v' E q2
  obtain rfl := q2.1
  try simp (maxSteps := 20000000) (disch := first | omega | (simp only [lnS]; try omega)) []
  refine hK _ _ ?_; clear hK K
  (refine aoo fun K hK => ?_; simp (maxSteps := 20000000) (disch := first | omega | (simp only [lnS]; try omega)) [h53]; refine hK _ _ ?_; clear hK K)
  refine ⟨q - 1, by omega, j + 1, by omega, by (first | (simp [h0]; done) | rfl), by (first | (simp [h51]; done) | rfl), by (first | (simp [h52]; done) | rfl), by (first | (simp; done) | rfl), ?_⟩
  rw [hfd]
  exact q2.then_ hDl hDk hF3
 obtain ⟨_, hBl, hBk, F2, hS2, hF2⟩ := hq
 obtain ⟨q1, w1, w2, w3⟩ := hTu.at_ hj
 have w3 := w3 B (fun j hj => hBk j (hS.ap j (hFu j hj)).2 (hS.ap j (hFu j hj)).1)
 have hfd := fold_take (f := fun s u => opnS c.T (tryS c.T s u) u) (b := s1) (d := 0) hj
 have hz := hul (us.getD j 0) (by rw [List.getD_eq_getElem?_getD, List.getElem?_eq_getElem hj]; exact List.getElem_mem hj)
 generalize us.getD j 0 = u at *
 (refine aoo fun K hK => ?_; simp (maxSteps := 20000000) (disch := first | omega | (simp only [lnS]; try omega)) [h28, h29, hj]; refine hK _ _ ?_; clear hK K)
 refine aw_seq ?_
 refine aw_t (by (first | (simp [hj]; done) | (simp [hj]; omega))) (by kernel_rfl) ?_
 refine aw_skip (aw_seq ?_)
 refine aw_block ?_
 (refine aw_seq (aoo fun K hK => ?_); simp (maxSteps := 20000000) (disch := first | omega | (simp only [lnS]; try omega)) [h27, h29, -xindexAddr, w1, w2, -xload, w3, -notTuple, hTn.1]; refine hK _ _ ?_; clear hK K)
 refine aw_seq (aoo fun K hK => ?_)
 simp (maxSteps := 20000000) (disch := first | omega | (simp only [lnS]; try omega)) [h0]
 refine ⟨by kernel_rfl, AC.mono (try_ac hS2 hz) ?_⟩
 intro v' E q2
 obtain rfl := q2.1
 try simp (maxSteps := 20000000) (disch := first | omega | (simp only [lnS]; try omega)) []
 refine hK _ _ ?_; clear hK K
 obtain ⟨_, hEl, hEk, F3, hS3, hF3⟩ := q2
 refine aoo fun K hK => ?_
 simp (maxSteps := 20000000) (disch := first | omega | (simp only [lnS]; try omega)) [h0]
 refine ⟨by kernel_rfl, AC.mono (opn_ac hS3 hz) ?_⟩
 intro v' E2 q3
 obtain rfl := q3.1
 try simp (maxSteps := 20000000) (disch := first | omega | (simp only [lnS]; try omega)) []
 refine hK _ _ ?_; clear hK K
 (refine aoo fun K hK => ?_; simp (maxSteps := 20000000) (disch := first | omega | (simp only [lnS]; try omega)) [h29]; refine hK _ _ ?_; clear hK K)
 refine ⟨q - 1, by omega, j + 1, by omega, by (first | (simp [h0]; done) | rfl), by (first | (simp [h5]; done) | rfl), by (first | (simp [h27]; done) | rfl), by (first | (simp [h28]; done) | rfl), by (first | (simp; done) | rfl), ?_⟩
 rw [hfd]
 exact (q3.then_ hEl hEk hF3).then_ hBl hBk hF2
end
section
def sameT (x y : TermD) : Bool := decide (x.kind = y.kind) && (decide (x.text = y.text) && decide (x.keys = y.keys))
theorem sameT_iff {x y : TermD} : sameT x y = true ↔ x = y := by
 obtain ⟨a, b, c⟩ := x
 obtain ⟨a', b', c'⟩ := y
 simp [sameT]
theorem tl_beq (a b : ByteArray) : (a.toList == b.toList) = decide (a = b) := by
 rw [Bool.eq_iff_iff, beq_iff_eq, decide_eq_true_iff, ByteArray.toList_eq, ByteArray.toList_eq]
 exact ⟨fun h => ByteArray.ext (Array.ext' h), fun h => by rw [h]⟩
end
end
end Go.Proofs.YtlaglpnbmkoakaaDoor
